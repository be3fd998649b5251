/-
  Lists of shares: permutations and parts of accepted ones; parts of a slice of shares. Plain facts.
  Contracts of package params over this seat's translation, those that need no field: isWithin, headerOf, isMixed, hasDuplicate, Indices, Column. Conditions: the numbers are ints; the shares lie in memory.
  The contracts of package params over this seat's translation: Check, Random, CheckShare, CheckShares (ParP1 has Indices and Column). Conditions: the numbers are ints; the shares lie in memory; the table of fields lies in memory as it was laid.
-/
import Derived.Test.YtbkgghhngeibhaaGreatDoorParGrp
import Derived.Test.YtbkgghhngeibhaaGreatDoorIntAll
import Derived.Test.YtbkgghhngeibhaaGreatDoorRegn
import Derived.Test.YtbkgghhngeibhaaGreatDoorPolCore
import Derived.Test.YtbkgghhngeibhaaGreatDoorFieldGrp
namespace Go.Proofs.YtbkgghhngeibhaaGreatDoor
open Lib (hid)
section
open Go.RowKit
set_option maxRecDepth 100000
set_option maxHeartbeats 4000000
theorem firstE_perm {l m:List Sh} (h:l.Perm m) (h0:firstE l=0):firstE m=0 :=
 firstE_zero.2 (fun s hs=>firstE_zero.1 h0 s (h.mem_iff.2 hs))
theorem shsN_perm {l m:List Sh} (h:l.Perm m) (h0:firstE l=0):shsN m=shsN l:=by
 have h1:=firstE_perm h h0
 have h2:OneH m↔OneH l:=by
  unfold OneH
  constructor
  ·intro x s hs t ht;exact x s (h.mem_iff.1 hs) t (h.mem_iff.1 ht)
  intro x s hs t ht;exact x s (h.mem_iff.2 hs) t (h.mem_iff.2 ht)
 have h3:(ixs m).Nodup↔(ixs l).Nodup:=(h.map Sh.ix).nodup_iff.symm
 have h4:(m=[]\/∃ s∈m,(m.length:Int)<s.th)↔(l=[]\/∃ s∈l,(l.length:Int)<s.th):=by
  rw[h.length_eq]
  constructor
  ·rintro(rfl | ⟨s,hs,hl⟩)
   ·exact .inl h.eq_nil
   exact .inr ⟨s,h.mem_iff.2 hs,hl⟩
  rintro(rfl | ⟨s,hs,hl⟩)
  ·exact .inl h.symm.eq_nil
  exact .inr ⟨s,h.mem_iff.1 hs,hl⟩
 unfold shsN
 rw[h0,h1]
 simp only[h2,h3,h4]
theorem shN_th {s:Sh} (h:shN s=0):1<=s.th:=by
 unfold shN at h
 split at h
 ·exact absurd h (by decide)
 split at h
 ·exact absurd h (by decide)
 omega
theorem shsN_ok {l:List Sh} (h:shsN l=0):firstE l=0/\OneH l/\(ixs l).Nodup/\l≠[]:=by
 unfold shsN at h
 split at h
 ·next c=>exact absurd h c
 next c1 =>
 split at h
 ·exact absurd h (by decide)
 next c2 =>
 split at h
 ·exact absurd h (by decide)
 next c3 =>
 split at h
 ·exact absurd h (by decide)
 next c4=>exact⟨by simpa using c1,by simpa using c2,by simpa using c3,fun e=>c4 (.inl e)⟩
theorem shsN_sub {l m:List Sh} {s0:Sh} (h:shsN l=0) (hm:m.Sublist l) (h0:l[0]?=some s0):shsN m=if (m.length:Int)<s0.th then 16 else 0:=by
 obtain⟨e1,e2,e3,e4⟩:=shsN_ok h
 have f1:firstE m=0:=firstE_zero.2 (fun s hs=>firstE_zero.1 e1 s (hm.subset hs))
 have f2:OneH m:=fun s hs t ht=>e2 s (hm.subset hs) t (hm.subset ht)
 have f3:(ixs m).Nodup:=e3.sublist (hm.map Sh.ix)
 have m0:=List.mem_of_getElem? h0
 rcases Nat.eq_zero_or_pos m.length with hz | hp
 ·obtain rfl:=List.eq_nil_of_length_eq_zero hz
  have:=shN_th (firstE_zero.1 e1 s0 m0)
  rw[shsN_nil,if_pos (by simp;omega)]
 obtain⟨t,ht⟩:∃ t,m[0]?=some t:=⟨m[0],List.getElem?_eq_getElem hp⟩
 rw[shsN_end f1 f2 f3 ht]
 rw[(e2 t (hm.subset (List.mem_of_getElem? ht)) s0 m0).2.1]
theorem SvsAt.wide {w:World} {v:Value} {L:List ShV} {S S':Nat->Prop} (h:SvsAt w v L S) (hs:∀ k,k<w.heap.size->S k->S' k):SvsAt w v L S':=by
 obtain⟨a,cap,hv,hc,hx⟩:=h
 refine⟨a,cap,hv,hc,fun hp=>?_⟩
 obtain⟨b,off,ha,hS,hat⟩:=hx hp
 have c0:=hat 0 (L[0]'hp) 0 _ (List.getElem?_eq_getElem _) rfl
 exact⟨b,off,ha,hs b (World.block_lt_of_cell? w _ c0) hS,hat⟩
theorem PlAt.wide {w:World} {x:ShV} {S S':Nat->Prop} (h:PlAt w x S) (hs:∀ k,k<w.heap.size->S k->S' k):PlAt w x S':=⟨h.1,h.2.1,h.2.2.wide hs⟩
theorem share_elem:Tryz.prog.elem 22=45:=by simp[Program.elem,Tryz.underlying22]
theorem SvsAt.from {W:World} {a:Option Addr} {n cap:Nat} {L:List ShV} {S:Nat->Prop} (h:SvsAt W (.slice a n cap) L S) (lo:Nat) (hlo:lo<=n):SvsAt W (.slice (if cap=lo then a else a.map (·.add (lo*5))) (n-lo) (cap-lo)) (L.drop lo) S:=by
 obtain⟨a',cap',e,hc,hx⟩:=h
 simp at e
 obtain⟨rfl,rfl,rfl⟩:=e
 refine⟨_,cap-lo,by rw[List.length_drop],by rw[List.length_drop];omega,fun hp=>?_⟩
 rw[List.length_drop]at hp
 obtain⟨b,o,rfl,hS,hat⟩:=hx (by omega)
 rw[if_neg (by omega)]
 refine⟨b,o+lo*5,by simp[Addr.add_lit],hS,fun j x k u hj hu=>?_⟩
 rw[List.getElem?_drop]at hj
 have:=hat _ x k u hj hu
 rw[show o+lo*5+j*5+k=o+(lo+j)*5+k by omega]
 exact this
theorem SvsAt.upto {W:World} {a:Option Addr} {n cap:Nat} {L:List ShV} {S:Nat->Prop} (h:SvsAt W (.slice a n cap) L S) (k:Nat) (hk:k<=n):SvsAt W (.slice a k cap) (L.take k) S:=by
 obtain⟨a',cap',e,hc,hx⟩:=h
 simp at e
 obtain⟨rfl,rfl,rfl⟩:=e
 have hl:(L.take k).length=k:=by rw[List.length_take];omega
 refine⟨a,cap,by rw[hl],by rw[hl];omega,fun hp=>?_⟩
 obtain⟨b,o,ha,hS,hat⟩:=hx (by rw[hl]at hp;omega)
 refine⟨b,o,ha,hS,fun j x k' u hj hu=>?_⟩
 have hjk:=(List.getElem?_eq_some_iff.1 hj).1
 rw[hl]at hjk
 rw[List.getElem?_take,if_pos hjk]at hj
 exact hat j x k' u hj hu
theorem shs_h (a:Option Addr) (n cap k:Nat) (hk:k<=n) (hc:n<=cap):∃ a',(∀ W,(Instr.slice 22 (.slice a n cap) none (some (.int .i64 k)) none).run Tryz.prog W=.ok (.slice a' k cap) W)/\∀ W S L,SvsAt W (.slice a n cap) L S->SvsAt W (.slice a' k cap) (L.take k) S:=by
 refine⟨if cap=0 then a else a.map (·.add (0*5)),fun W=>?_,fun W S L h=>?_⟩
 ·rw[run_slice_h W 22 _ _ _ (by rw[share_elem];exact Tryz.underlying22) .i64 _ (by omega) (by omega),share_elem,Tryz.sizeOf45]
  simp only[Result.andThen,sliced,Int.toNat_natCast,Nat.sub_zero]
 have:=(h.from 0 (Nat.zero_le _)).upto k (by omega)
 rw[List.drop_zero]at this
 exact this
theorem shs_l (a:Option Addr) (n cap k:Nat) (hk:k<=n) (_hc:n<=cap):∃ a',(∀ W,(Instr.slice 22 (.slice a n cap) (some (.int .i64 k)) none none).run Tryz.prog W=.ok (.slice a' (n-k) (cap-k)) W)/\∀ W S L,SvsAt W (.slice a n cap) L S->SvsAt W (.slice a' (n-k) (cap-k)) (L.drop k) S:=by
 refine⟨if cap=k then a else a.map (·.add (k*5)),fun W=>?_,fun W S L h=>h.from k hk⟩
 rw[run_slice_l W 22 _ _ _ (by rw[share_elem];exact Tryz.underlying22) .i64 _ (by omega) (by omega),share_elem,Tryz.sizeOf45]
 simp only[Result.andThen,sliced,Int.toNat_natCast]
end
section
open Go.RowKit Go.Maps
attribute [local go_sem ↓] Go.wp_at_zero Go.wp_at_succ
set_option maxRecDepth 100000
set_option maxHeartbeats 4000000
theorem within_any (n l h:Int) (w:World) :
  Calls Tryz.prog 84 #[.int .i64 n,.int .i64 l,.int .i64 h] w fun e w'=>e=.returned (.bool (decide (l<=n/\n<=h)))/\w'=w:=by
 obtain⟨q,hq⟩:∃ q,q=decide (l<=n/\n<=h):=⟨_,rfl⟩
 rw[<-hq]
 by_cases h0:l<=n
 ·by_cases h1:n<=h
  ·obtain rfl:q=true:=by rw[hq];exact decide_eq_true ⟨h0,h1⟩
   clear hq
   go_enter Tryz.func84,Tryz.ntmps84
   go_wp2
   go_ret
   exact⟨rfl,rfl⟩
  obtain rfl:q=false:=by rw[hq];exact decide_eq_false (fun c=>h1 c.2)
  clear hq
  go_enter Tryz.func84,Tryz.ntmps84
  go_wp2
  go_ret
  exact⟨rfl,rfl⟩
 obtain rfl:q=false:=by rw[hq];exact decide_eq_false (fun c=>h0 c.1)
 clear hq
 go_enter Tryz.func84,Tryz.ntmps84
 go_wp2
 go_ret
 exact⟨rfl,rfl⟩
def ItBlk (w:World) (b:Nat) (T:TypeId) (xs:List Int):Prop:=w.heap[b]?=some (.cells (xs.map (Value.int .i64)).toArray T (0,0))
theorem ItBlk.cell {w:World} {b:Nat} {T:TypeId} {xs:List Int} (h:ItBlk w b T xs) {j:Nat} {x:Int} (hj:xs[j]?=some x):w.cell? ⟨b,j,none⟩=some (.int .i64 x):=by
 rw[cell_of_heap h,List.getElem?_toArray,List.getElem?_map,hj];rfl
theorem ItBlk.off {w w':World} {b:Nat} {T:TypeId} {xs:List Int} {S:Nat->Prop} (h:ItBlk w b T xs) (ho:Off S w w') (hb:¬S b):ItBlk w' b T xs:=ho.heap h hb
theorem ItBlk.store {w:World} {b:Nat} {T:TypeId} {xs:List Int} (h:ItBlk w b T xs) (j:Nat) (v:Int):ItBlk (w.setCell ⟨b,j,none⟩ (.int .i64 v)) b T (xs.set j v):=by
 have:=heap_set h j (.int .i64 v)
 unfold ItBlk
 rw[this]
 congr 2
 apply Array.ext'
 simp[List.map_set]
theorem par_int_info:(Tryz.prog.info? 3).map (fun i=>(i.zero,i.size,i.bytes))=some (some (.int .i64 0),1,8):=by kernel_rfl
theorem par_make_ints (n:Nat) (hn:n<=100000) (w:World):∃ o,(Instr.makeSlice 34 (.int .i64 n) (.int .i64 n)).run Tryz.prog w=.ok (.slice (some ⟨w.heap.size,0,none⟩) n n) (w.alloc o)/\ItBlk (w.alloc o) w.heap.size 3 (List.replicate n 0):=by
 obtain⟨i0,hi,hz0,hz1,hz2⟩:=info_parts par_int_info
 have:=run_make (P:=Tryz.prog) w 34 3 i0 _ Tryz.underlying34 hi hz0 .i64 .i64 (n:Int) (n:Int) (by omega) (Int.le_refl _) (by rw[hz2];omega) (by omega)
 rw[hz1]at this
 refine⟨_,by simpa using this,?_⟩
 unfold ItBlk
 rw[heap_new' rfl _]
 congr 2
 apply Array.ext'
 apply List.ext_getElem?
 intro j
 by_cases hj:j<n
 ·simp[madeCells,hj,Value.cells,Nat.mod_one]
 rw[List.getElem?_eq_none (by simp[madeCells];omega),List.getElem?_eq_none (by simp;omega)]
theorem cells5 {w:World} {b:Nat} {T:TypeId} {v0 v1 v2 v3 v4:Value} (h:w.heap[b]?=some (.cells #[v0,v1,v2,v3,v4] T (0,0))) :
  w.cell? ⟨b,0,none⟩=some v0/\w.cell? ⟨b,1,none⟩=some v1/\w.cell? ⟨b,2,none⟩=some v2/\w.cell? ⟨b,3,none⟩=some v3/\w.cell? ⟨b,4,none⟩=some v4 :=
 ⟨cell_of_heap h 0,cell_of_heap h 1,cell_of_heap h 2,cell_of_heap h 3,cell_of_heap h 4⟩
theorem header_any (fd th ix ln:Int) (pv:Value) (w:World) :
  Calls Tryz.prog 87 #[.agg #[.int .i64 fd,.int .i64 th,.int .i64 ix,.int .i64 ln,pv]] w fun e w'=>e=.returned (.agg #[.int .i64 fd,.int .i64 th,.int .i64 ln])/\Off (fun _=>False) w w':=by
 go_enter Tryz.func87,Tryz.ntmps87
 go_wp2
 obtain⟨W,hW⟩:∃ W,W=(w.alloc (.cells #[.int .i64 fd,.int .i64 th,.int .i64 ix,.int .i64 ln,pv] 45)).alloc (.cells #[.int .i64 fd,.int .i64 th,.int .i64 ln] 132):=⟨_,rfl⟩
 have g:W.heap[w.heap.size+1]?=some (.cells #[.int .i64 fd,.int .i64 th,.int .i64 ln] 132 (0,0)):=by rw[hW];exact heap_new' (by simp) _
 have hO:Off (fun _=>False) w W:=by rw[hW];exact((Off.refl _ w).alloc _).alloc _
 rw[<-hW]
 have r0:=cell_of_heap g 0
 have r1:=cell_of_heap g 1
 have r2:=cell_of_heap g 2
 exact bodyPost_ret (v:=.agg #[.int .i64 fd,.int .i64 th,.int .i64 ln]) (by simp[results,Tryz.results87,go_sem,r0,r1,r2]) rfl ⟨rfl,hO⟩
-- @gen
theorem mixed_any (l:List Sh) (a:Option Addr) (n cap:Nat) (hn:n=l.length) (S:Nat->Prop) (w:World) (h:ShsAt w (.slice a n cap) l S) :
  Calls Tryz.prog 60 #[.slice a n cap] w fun e w'=>e=.returned (.bool (decide (¬OneH l)))/\Off (fun _=>False) w w':=by
 obtain⟨c,hc⟩:∃ c,c=decide (¬OneH l):=⟨_,rfl⟩
 rw[<-hc]
 have hmax:n<=maxLen:=by
  obtain⟨_,_,e,_,h1,_⟩:=h
  simp at e;omega
 unfold maxLen at hmax
 have HN:=hid hn
 have HC:=hid hc
 have HL:=hid h
 clear hn hc h
 go_enter Tryz.func60,Tryz.ntmps60
 go_wp2_with fail
 go_loopw [7] (fun i wr=>∃ k:Nat,k<=n/\i=.int .i64 k/\(∀ (j:Nat) (s t:Sh),j<k->l[j]?=some s->l[0]?=some t->SameH s t)/\Off (fun _=>False) w wr) (fun i _=>n-(intOf i).toNat)
 case atStart=>exact⟨0,Nat.zero_le _,rfl,(fun _ _ _ h=>absurd h (Nat.not_lt_zero _)),Off.refl _ _⟩
 case round =>
  obtain⟨k,hk,rfl,hr,hO⟩:=hrel
  by_cases hlt:k<n
  ·have w2:IntKind.i64.wrap ((k:Int)+1)=(k:Int)+1:=by rw[IntKind.wrap_i64];omega
   obtain⟨s,b,off,hx,hok,rfl,_,c0,c1,c2,c3,pa,pc,c4,hpc,hV⟩:=(HL.out.off hO (fun _ _ _ c=>c)).at hlt
   obtain⟨t,b',off',hy,_,e',_,hz⟩:=(HL.out.off hO (fun _ _ _ c=>c)).at (show 0<n by omega)
   cases e'
   obtain⟨z0,z1,z2,z3,qa,qc,z4,_,_⟩:=hz.zero
   have hlb:b<wr.heap.size:=World.block_lt_of_cell? wr _ c0
   have HX:=hid hx
   have HY:=hid hy
   have HR:=hid hr
   have hkn:(k:Int)<(n:Int):=by omega
   have hn0':(0:Int)<(n:Int):=by omega
   have HM:Hid (¬SameH s t->c=true):=hid (fun hne=>by rw[HC.out];exact decide_eq_true (fun h=>hne ((oneH_of HY.out).1 h _ _ HX.out)))
   obtain⟨fd,th,ix,ln,pl⟩:=s
   obtain⟨fd',th',ix',ln',pl'⟩:=t
   dsimp only at c0 c1 c2 c3 c4 z0 z1 z2 z3 z4
   obtain⟨m,hm⟩:∃ m,m=pl.length:=⟨_,rfl⟩
   obtain⟨m',hm'⟩:∃ m',m'=pl'.length:=⟨_,rfl⟩
   rw[<-hm]at c4
   rw[<-hm']at z4
   obtain⟨wa,hwa⟩:∃ wa,wa=wr.alloc (.cells #[.int .i64 fd,.int .i64 th,.int .i64 ix,.int .i64 ln,.slice pa m pc] 45):=⟨_,rfl⟩
   have hOa:Off (fun _=>False) wr wa:=by rw[hwa];exact(Off.refl _ wr).alloc _
   obtain⟨g0,g1,g2,g3,g4⟩:=cells5 (show wa.heap[wr.heap.size]?=some (.cells #[.int .i64 fd,.int .i64 th,.int .i64 ix,.int .i64 ln,.slice pa m pc] 45 (0,0)) by rw[hwa];exact heap_new' rfl _)
   have y0:=hOa.cell z0 (fun c=>c)
   have y1:=hOa.cell z1 (fun c=>c)
   have y2:=hOa.cell z2 (fun c=>c)
   have y3:=hOa.cell z3 (fun c=>c)
   have y4:=hOa.cell z4 (fun c=>c)
   have F1:=hid (fun W=>header_any fd th ix ln (.slice pa m pc) W)
   have F2:=hid (fun W=>header_any fd' th' ix' ln' (.slice qa m' qc) W)
   have HWa:=hid hwa
   have HOa:=hid (hO.trans hOa (fun _ _ c=>c))
   clear hx hy hr hO hok hV hpc hz hm hm' hwa hOa z0 z1 z2 z3 z4
   by_cases h1:fd=fd'
   ·have e1:(fd==fd')=true:=by simp[h1]
    by_cases h2:th=th'
    ·have e2:(th==th')=true:=by simp[h2]
     by_cases h3:ln=ln'
     ·have e3:(ln==ln')=true:=by simp[h3]
      have HS:=hid (show SameH ⟨fd,th,ix,ln,pl⟩ ⟨fd',th',ix',ln',pl'⟩ from⟨h1,h2,h3⟩)
      clear h1 h2 h3 HM
      go_upto_region 4 with fail
      rw[<-HWa.out]
      clear c0 c1 c2 c3 c4 hlb
      refine wp_region_off (by kernel_rfl) (by kernel_rfl) (fun T _ g hg=>?_)
      have p0:=fun t=>hg.cell g0 t
      have p1:=fun t=>hg.cell g1 t
      have p2:=fun t=>hg.cell g2 t
      have p3:=fun t=>hg.cell g3 t
      have p4:=fun t=>hg.cell g4 t
      have q0:=fun t=>hg.cell y0 t
      have q1:=fun t=>hg.cell y1 t
      have q2:=fun t=>hg.cell y2 t
      have q3:=fun t=>hg.cell y3 t
      have q4:=fun t=>hg.cell y4 t
      have HGg:=hid hg
      clear hg g0 g1 g2 g3 g4 y0 y1 y2 y3 y4
      go_big_quiet_step (fail)
      go_big_quiet_step (exact HGg.out.call (F1.out _))
      repeat (go_big_quiet_step (exact HGg.out.call (F2.out _)))
      refine wpQuiet_nil ?_
      rintro wc ⟨t,rfl⟩
      have HOf:=hid (HOa.out.trans (HGg.out.off t) (fun _ _ c=>c))
      clear p0 p1 p2 p3 p4 q0 q1 q2 q3 q4
      go_wp2
      go_roundw
      case rel=>exact⟨k+1,by omega,by simp,(fun j s t hj hs ht=>by
       by_cases hjk:j<k
       ·exact HR.out j s t hjk hs ht
       obtain rfl:j=k:=(by omega)
       rw[HX.out]at hs;rw[HY.out]at ht;cases hs;cases ht;exact HS.out),HOf.out⟩
      case measure=>simp[intOf];omega
     have e3:(ln==ln')=false:=by simp[h3]
     have HB:=hid (HM.out (fun h=>h3 h.2.2))
     clear h1 h2 h3 HM
     go_upto_region 4 with fail
     rw[<-HWa.out]
     clear c0 c1 c2 c3 c4 hlb
     refine wp_region_off (by kernel_rfl) (by kernel_rfl) (fun T _ g hg=>?_)
     have p0:=fun t=>hg.cell g0 t
     have p1:=fun t=>hg.cell g1 t
     have p2:=fun t=>hg.cell g2 t
     have p3:=fun t=>hg.cell g3 t
     have p4:=fun t=>hg.cell g4 t
     have q0:=fun t=>hg.cell y0 t
     have q1:=fun t=>hg.cell y1 t
     have q2:=fun t=>hg.cell y2 t
     have q3:=fun t=>hg.cell y3 t
     have q4:=fun t=>hg.cell y4 t
     have HGg:=hid hg
     clear hg g0 g1 g2 g3 g4 y0 y1 y2 y3 y4
     go_big_quiet_step (fail)
     go_big_quiet_step (exact HGg.out.call (F1.out _))
     repeat (go_big_quiet_step (exact HGg.out.call (F2.out _)))
     refine wpQuiet_nil ?_
     rintro wc ⟨t,rfl⟩
     have HOf:=hid (HOa.out.trans (HGg.out.off t) (fun _ _ c=>c))
     clear p0 p1 p2 p3 p4 q0 q1 q2 q3 q4
     go_wp2
     refine bodyPost_ret (results_tmp rfl _ _ _) rfl ?_
     exact⟨by rw[HB.out];rfl,HOf.out⟩
    have e2:(th==th')=false:=by simp[h2]
    have HB:=hid (HM.out (fun h=>h2 h.2.1))
    clear h1 h2 HM
    go_upto_region 4 with fail
    rw[<-HWa.out]
    clear c0 c1 c2 c3 c4 hlb
    refine wp_region_off (by kernel_rfl) (by kernel_rfl) (fun T _ g hg=>?_)
    have p0:=fun t=>hg.cell g0 t
    have p1:=fun t=>hg.cell g1 t
    have p2:=fun t=>hg.cell g2 t
    have p3:=fun t=>hg.cell g3 t
    have p4:=fun t=>hg.cell g4 t
    have q0:=fun t=>hg.cell y0 t
    have q1:=fun t=>hg.cell y1 t
    have q2:=fun t=>hg.cell y2 t
    have q3:=fun t=>hg.cell y3 t
    have q4:=fun t=>hg.cell y4 t
    have HGg:=hid hg
    clear hg g0 g1 g2 g3 g4 y0 y1 y2 y3 y4
    go_big_quiet_step (fail)
    go_big_quiet_step (exact HGg.out.call (F1.out _))
    repeat (go_big_quiet_step (exact HGg.out.call (F2.out _)))
    refine wpQuiet_nil ?_
    rintro wc ⟨t,rfl⟩
    have HOf:=hid (HOa.out.trans (HGg.out.off t) (fun _ _ c=>c))
    clear p0 p1 p2 p3 p4 q0 q1 q2 q3 q4
    go_wp2
    refine bodyPost_ret (results_tmp rfl _ _ _) rfl ?_
    exact⟨by rw[HB.out];rfl,HOf.out⟩
   have e1:(fd==fd')=false:=by simp[h1]
   have HB:=hid (HM.out (fun h=>h1 h.1))
   clear h1 HM
   go_upto_region 4 with fail
   rw[<-HWa.out]
   clear c0 c1 c2 c3 c4 hlb
   refine wp_region_off (by kernel_rfl) (by kernel_rfl) (fun T _ g hg=>?_)
   have p0:=fun t=>hg.cell g0 t
   have p1:=fun t=>hg.cell g1 t
   have p2:=fun t=>hg.cell g2 t
   have p3:=fun t=>hg.cell g3 t
   have p4:=fun t=>hg.cell g4 t
   have q0:=fun t=>hg.cell y0 t
   have q1:=fun t=>hg.cell y1 t
   have q2:=fun t=>hg.cell y2 t
   have q3:=fun t=>hg.cell y3 t
   have q4:=fun t=>hg.cell y4 t
   have HGg:=hid hg
   clear hg g0 g1 g2 g3 g4 y0 y1 y2 y3 y4
   go_big_quiet_step (fail)
   go_big_quiet_step (exact HGg.out.call (F1.out _))
   repeat (go_big_quiet_step (exact HGg.out.call (F2.out _)))
   refine wpQuiet_nil ?_
   rintro wc ⟨t,rfl⟩
   have HOf:=hid (HOa.out.trans (HGg.out.off t) (fun _ _ c=>c))
   clear p0 p1 p2 p3 p4 q0 q1 q2 q3 q4
   go_wp2
   refine bodyPost_ret (results_tmp rfl _ _ _) rfl ?_
   exact⟨by rw[HB.out];rfl,HOf.out⟩
  have HB:=hid (show c=false by
   rw[HC.out]
   refine decide_eq_false (fun hne=>hne ?_)
   by_cases h0:n=0
   ·have:l=[]:=List.length_eq_zero_iff.1 (by rw[<-HN.out];exact h0)
    subst this
    exact fun _ h=>by simp at h
   obtain⟨t,ht⟩:∃ t,l[0]?=some t:=⟨_,List.getElem?_eq_getElem (by rw[<-HN.out];omega)⟩
   exact(oneH_of ht).2 (fun j s hj=>hr j s t (by have:=(List.getElem?_eq_some_iff.1 hj).1;rw[<-HN.out]at this;omega) hj ht))
  have HO:=hid hO
  have hkn:¬(k:Int)<(n:Int):=by omega
  clear hr hO
  go_wp2
  refine bodyPost_ret (results_tmp rfl _ _ _) rfl ?_
  exact⟨by rw[HB.out];rfl,HO.out⟩
theorem count_law:Keyed Tryz.prog 3:=int_keyed Tryz.underlying3
theorem count_zero (w:World):(zeroValue 3).run Tryz.prog w=.ok (.int .i64 0) w:=by kernel_rfl
def Cnts (w:World) (B k:Nat) (f:Int->Int):Prop:=∃ D:DataW Unit,w.ownsMap Tryz.prog 3 (plainElem Tryz.prog 3) B k D/\∀ y:Int,D.atKey (.int .i64 y) (.lit (.int .i64 0))=.lit (.int .i64 (f y))
theorem Cnts.look {w:World} {B k:Nat} {f:Int->Int} (h:Cnts w B k f) {y:Int} (hy:(Lit.int .i64 y).wf=true):(Instr.lookup 134 (.map (some B)) (.int .i64 y) false).run Tryz.prog w=.ok (.int .i64 (f y)) w:=by
 obtain⟨D,hD,hat⟩:=h
 obtain⟨v,ps,hrun,hv⟩:=hD.lookup count_law Tryz.underlying134 (count_zero w) (plainElem_int Tryz.underlying3 (by decide)) (keyOf_int_mk Tryz.underlying3 hy)
 obtain⟨x,rfl,e,_⟩:=plainElem_int_inv Tryz.underlying3 hv
 rw[hat y]at e
 simp at e
 rw[hrun,<-e.1]
theorem Cnts.put {w:World} {B k:Nat} {f:Int->Int} (h:Cnts w B k f) {x v:Int} (hw:(Lit.int .i64 x).wf=true) (hv:(Lit.int .i64 v).wf=true) (hk:k<maxLen) :
  ∃ w',(Instr.mapUpdate 134 (.map (some B)) (.int .i64 x) (.int .i64 v)).run Tryz.prog w=.ok () w'/\Cnts w' B (k+1) (fun y=>if y=x then v else f y)/\w.grownBy w' (some B):=by
 obtain⟨D,hD,hat⟩:=h
 obtain⟨w',hrun,hD',hg⟩:=hD.update count_law Tryz.underlying134 hk (keyOf_int_mk Tryz.underlying3 hw) (plainElem_int Tryz.underlying3 hv)
 refine⟨w',hrun,⟨_,hD',fun y=>?_⟩,hg⟩
 by_cases e:y=x
 ·subst e
  rw[atKey_put_same hD.isMap (show WideAt.IsKeyLit (.int .i64 y) from trivial)]
  simp
 rw[atKey_put_other (fun c=>e (by injection c))]
 rw[hat y]
 simp[e]
theorem Cnts.off {w w':World} {B k:Nat} {f:Int->Int} (h:Cnts w B k f) (ho:Off (fun _=>False) w w'):Cnts w' B k f:=by
 obtain⟨D,⟨es,clock,h1,h2⟩,hat⟩:=h
 exact⟨D,⟨es,clock,ho.heap h1 (fun c=>c),h2⟩,hat⟩
theorem Off.grown_own {S:Nat->Prop} {a w w':World} {B:Nat} (h:Off S a w) (hg:w.grownBy w' (some B)) (hB:a.heap.size<=B):Off S a w' :=
 ⟨hg.os.trans h.os,hg.tape.trans h.tape,hg.output.trans h.output,Nat.le_trans h.size hg.size,
  fun k hk hn=>(hg.block k (Nat.lt_of_lt_of_le hk h.size) (fun e=>by cases e;omega)).trans (h.block k hk hn),
  fun k o ho hc=>(hg.block k (Nat.lt_of_lt_of_le (heap_lt ho) h.size) (fun e=>by cases e;have:=heap_lt ho;omega)).trans (h.others k o ho hc)⟩
theorem ixs_get {l:List Sh} {k:Nat} {s:Sh} (hx:l[k]?=some s):(ixs l)[k]?=some s.ix:=by unfold ixs;rw[List.getElem?_map,hx];rfl
theorem ixs_take_succ {l:List Sh} {k:Nat} {s:Sh} (hx:l[k]?=some s) {y:Int}:y∈(ixs l).take (k+1)↔y∈(ixs l).take k\/y=s.ix:=by
 obtain⟨hk,hxk⟩:=List.getElem?_eq_some_iff.1 (ixs_get hx)
 rw[List.take_succ_eq_append_getElem hk,hxk];simp
theorem ixs_nodup_succ {l:List Sh} {k:Nat} {s:Sh} (hx:l[k]?=some s) (h:((ixs l).take k).Nodup) (hn:s.ix∉(ixs l).take k):((ixs l).take (k+1)).Nodup:=by
 obtain⟨hk,hxk⟩:=List.getElem?_eq_some_iff.1 (ixs_get hx)
 rw[List.take_succ_eq_append_getElem hk,hxk]
 refine List.nodup_append.2 ⟨h,by simp,fun a ha b hb e=>?_⟩
 simp only[List.mem_singleton]at hb
 subst hb e
 exact hn ha
theorem ixs_not_nodup {l:List Sh} {k:Nat} {s:Sh} (hx:l[k]?=some s) (hn:s.ix∈(ixs l).take k):¬(ixs l).Nodup:=by
 obtain⟨hk,hxk⟩:=List.getElem?_eq_some_iff.1 (ixs_get hx)
 intro h
 rw[<-List.take_append_drop k (ixs l),List.nodup_append]at h
 refine h.2.2 s.ix hn s.ix ?_ rfl
 rw[List.drop_eq_getElem_cons hk,hxk]
 exact List.mem_cons_self ..
def cntK (l:List Sh) (k:Nat) (y:Int):Int:=if y∈(ixs l).take k then 1 else 0
theorem dup_any (l:List Sh) (a:Option Addr) (n cap:Nat) (hn:n=l.length) (S:Nat->Prop) (w:World) (h:ShsAt w (.slice a n cap) l S) :
  Calls Tryz.prog 61 #[.slice a n cap] w fun e w'=>e=.returned (.bool (decide (¬(ixs l).Nodup)))/\Off (fun _=>False) w w':=by
 obtain⟨c,hc⟩:∃ c,c=decide (¬(ixs l).Nodup):=⟨_,rfl⟩
 rw[<-hc]
 have hmax:n<=maxLen:=by
  obtain⟨_,_,e,_,h1,_⟩:=h
  simp at e;omega
 unfold maxLen at hmax
 have HN:=hid hn
 have HC:=hid hc
 have HL:=hid h
 have hmm:=@run_makeMap Tryz.prog
 obtain⟨W1,hW1⟩:∃ W1,W1=w.alloc (.map #[] 0):=⟨_,rfl⟩
 obtain⟨B,hB⟩:∃ B,B=w.heap.size:=⟨_,rfl⟩
 have HO1:=hid (show Off (fun _=>False) w W1 by rw[hW1];exact(Off.refl _ w).alloc _)
 have HS1:=hid (show Cnts W1 B 0 (cntK l 0) by
  rw[hW1,hB]
  exact⟨_,World.ownsMap_made _ _ _ _,fun y=>by simp[DataW.atKey,cntK]⟩)
 have HwB:=hid (show w.heap.size<=B by rw[hB];exact Nat.le_refl _)
 have HW1:=hid hW1
 have HB1:=hid hB
 clear hn hc h hW1 hB
 go_enter Tryz.func61,Tryz.ntmps61
 go_wp2_with fail
 rw[<-HW1.out,<-HB1.out]
 go_loopw [9] (fun i wr=>∃ k:Nat,k<=n/\i=.int .i64 k/\((ixs l).take k).Nodup/\Cnts wr B k (cntK l k)/\Off (fun _=>False) w wr) (fun i _=>n-(intOf i).toNat)
 case atStart=>exact⟨0,Nat.zero_le _,rfl,by simp,HS1.out,HO1.out⟩
 case round =>
  obtain⟨k,hk,rfl,hr,hS,hO⟩:=hrel
  by_cases hlt:k<n
  ·have w2:IntKind.i64.wrap ((k:Int)+1)=(k:Int)+1:=by rw[IntKind.wrap_i64];omega
   obtain⟨s,b,off,hx,hok,rfl,_,c0,c1,c2,c3,pa,pc,c4,hpc,hV⟩:=(HL.out.off hO (fun _ _ _ c=>c)).at hlt
   have hix:=hok.2.2.1
   have HX:=hid hx
   have HRd:=hid hr
   have hkn:(k:Int)<(n:Int):=by omega
   have hlb:b<wr.heap.size:=World.block_lt_of_cell? wr _ c0
   have hBl:B<wr.heap.size:=by
    obtain⟨D,⟨_,_,h1,_⟩,_⟩:=hS
    exact heap_lt h1
   have HI:=hid (show s.ix∈(ixs l).take k->c=true from fun h=>by rw[HC.out];exact decide_eq_true (ixs_not_nodup HX.out h))
   have HJ:=hid (show s.ix∉(ixs l).take k->((ixs l).take (k+1)).Nodup from fun h=>ixs_nodup_succ HX.out HRd.out h)
   have HE:=hid (show s.ix∉(ixs l).take k->(fun y=>if y=s.ix then 1 else cntK l k y)=cntK l (k+1) from fun hn=>funext fun y=>by
    unfold cntK
    by_cases e:y=s.ix
    ·rw[if_pos e,if_pos ((ixs_take_succ HX.out).2 (.inr e))]
    rw[if_neg e]
    by_cases hy:y∈(ixs l).take k
    ·rw[if_pos hy,if_pos ((ixs_take_succ HX.out).2 (.inl hy))]
    rw[if_neg hy,if_neg (fun h=>((ixs_take_succ HX.out).1 h).elim hy e)])
   obtain⟨fd,th,ix,ln,pl⟩:=s
   dsimp only at c0 c1 c2 c3 c4 hix HI HJ HE
   obtain⟨m,hm⟩:∃ m,m=pl.length:=⟨_,rfl⟩
   rw[<-hm]at c4
   obtain⟨wa,hwa⟩:∃ wa,wa=wr.alloc (.cells #[.int .i64 fd,.int .i64 th,.int .i64 ix,.int .i64 ln,.slice pa m pc] 45):=⟨_,rfl⟩
   have hOa:Off (fun _=>False) wr wa:=by rw[hwa];exact(Off.refl _ wr).alloc _
   have hga:wa.heap[wr.heap.size]?=some (.cells #[.int .i64 fd,.int .i64 th,.int .i64 ix,.int .i64 ln,.slice pa m pc] 45 (0,0)):=by rw[hwa];exact heap_new' rfl _
   obtain⟨g0,g1,g2,g3,g4⟩:=cells5 hga
   have hSa:=hS.off hOa
   have hlk:=hSa.look hix
   have HWa:=hid hwa
   have hOb:=hO.trans hOa (fun _ _ c=>c)
   have sza:wa.heap.size=wr.heap.size+1:=by rw[hwa];simp
   obtain⟨p,hp⟩:∃ p,p=wr.heap.size:=⟨_,rfl⟩
   by_cases hd:ix∈(ixs l).take k
   ·rw[show cntK l k ix=1 from if_pos hd]at hlk
    obtain⟨W2,hput,hS2,hg2⟩:=hSa.put (x:=ix) (v:=2) hix (by decide) (by unfold maxLen;omega)
    have hlk2:=hS2.look hix
    rw[if_pos rfl]at hlk2
    obtain⟨t0,t1,t2,t3,t4⟩:=cells5 ((hg2.block _ (by rw[sza];exact Nat.lt_succ_self _) (fun e=>by cases e;omega)).trans hga)
    have HBc:=hid (HI.out hd)
    have HO2:=hid (hOb.grown_own hg2 HwB.out)
    clear hx hr hO hS hOa hOb hSa hS2 hg2 hga hd hwa hok hV hpc hm sza hBl hp
    go_upto_region 5 with fail
    rw[<-HWa.out]
    clear c0 c1 c2 c3 c4 hlb
    go_wp2
    refine bodyPost_ret (results_tmp rfl _ _ _) rfl ?_
    exact⟨by rw[HBc.out];rfl,HO2.out⟩
   rw[show cntK l k ix=0 from if_neg hd]at hlk
   obtain⟨W2,hput,hS2,hg2⟩:=hSa.put (x:=ix) (v:=1) hix (by decide) (by unfold maxLen;omega)
   have hlk2:=hS2.look hix
   rw[if_pos rfl]at hlk2
   obtain⟨t0,t1,t2,t3,t4⟩:=cells5 ((hg2.block _ (by rw[sza];exact Nat.lt_succ_self _) (fun e=>by cases e;omega)).trans hga)
   have HN2:=hid (HJ.out hd)
   rw[HE.out hd]at hS2
   have HS2:=hid hS2
   have HO2:=hid (hOb.grown_own hg2 HwB.out)
   clear hx hr hO hS hOa hOb hSa hS2 hg2 hga hd hwa hok hV hpc hm sza hBl hp
   go_upto_region 5 with fail
   rw[<-HWa.out]
   clear c0 c1 c2 c3 c4 hlb
   go_wp2
   go_roundw
   case rel=>exact⟨k+1,by omega,by simp,HN2.out,HS2.out,HO2.out⟩
   case measure=>simp[intOf];omega
  obtain rfl:n=k:=by omega
  rw[List.take_of_length_le (by rw[HN.out];simp[ixs])]at hr
  have HBc:=hid (show c=false by rw[HC.out];exact decide_eq_false (fun h=>h hr))
  have HO:=hid hO
  have hnn:¬(n:Int)<(n:Int):=by omega
  clear hr hO hS
  go_wp2
  refine bodyPost_ret (results_tmp rfl _ _ _) rfl ?_
  exact⟨by rw[HBc.out];rfl,HO.out⟩
theorem half_len {α:Type} (xs:List α) (z:α) {n k:Nat} (hn:n=xs.length) (hk:k<=n):(xs.take k++List.replicate (n-k) z).length=n:=by
 rw[List.length_append,List.length_take,List.length_replicate];omega
theorem half_at {α:Type} (xs:List α) (z:α) {n k:Nat} (hn:n=xs.length) (hk:k<n):(xs.take k++List.replicate (n-k) z)[k]?=some z:=by
 rw[List.getElem?_append_right (by rw[List.length_take];omega),List.length_take,show k-min k xs.length=0 by omega,List.getElem?_replicate,if_pos (by omega)]
theorem half_set {α:Type} (xs:List α) (z:α) {n k:Nat} {x:α} (hn:n=xs.length) (hk:k<n) (hx:xs[k]?=some x):(xs.take k++List.replicate (n-k) z).set k x=xs.take (k+1)++List.replicate (n-(k+1)) z:=by
 rw[List.set_append_right _ _ (by rw[List.length_take];omega),List.length_take,show k-min k xs.length=0 by omega,show n-k=(n-(k+1))+1 by omega,List.replicate_succ,List.set_cons_zero,List.take_add_one,hx]
 simp
theorem indices_par (l:List Sh) (a:Option Addr) (n cap:Nat) (hn:n=l.length) (hl:n<=100000) (S:Nat->Prop) (w:World) (h:ShsAt w (.slice a n cap) l S) :
  Calls Tryz.prog 66 #[.slice a n cap] w fun e w'=>∃ v,e=.returned v/\IvAt w' v (ixs l) (fun k=>w.heap.size<=k)/\Off (fun _=>False) w w':=by
 obtain⟨o,hmk,hI⟩:=par_make_ints n hl w
 have HN:=hid (show n=(ixs l).length by unfold ixs;rw[List.length_map];exact hn)
 obtain⟨W1,hW1⟩:∃ W1,W1=w.alloc o:=⟨_,rfl⟩
 obtain⟨B,hB⟩:∃ B,B=w.heap.size:=⟨_,rfl⟩
 rw[<-hW1,<-hB]at hI
 have HO1:=hid (show Off (fun _=>False) w W1 by rw[hW1];exact(Off.refl _ w).alloc _)
 have HI:=hid (show ItBlk W1 B 3 ((ixs l).take 0++List.replicate (n-0) 0) by simpa using hI)
 have HB:=hid hB
 have HW1:=hid hW1
 have HL:=hid h
 have HS:Hid (∀ s∈l,s.ok):=hid (by obtain⟨_,_,_,_,_,hs,_⟩:=h;exact hs)
 clear hn h hW1 hB hI
 go_enter Tryz.func66,Tryz.ntmps66
 go_wp2_with fail
 rw[<-HW1.out,<-HB.out]
 go_loopw [4,11] (fun x i wr=>∃ k:Nat,k<=n/\i=.int .i64 k/\ItBlk wr B 3 ((ixs l).take k++List.replicate (n-k) 0)/\Off (fun _=>False) w wr) (fun _ i _=>n-(intOf i).toNat)
 case atStart=>exact⟨0,Nat.zero_le _,rfl,HI.out,HO1.out⟩
 case round =>
  obtain⟨k,hk,rfl,hr,hO⟩:=hrel
  by_cases hlt:k<n
  ·have w2:IntKind.i64.wrap ((k:Int)+1)=(k:Int)+1:=by rw[IntKind.wrap_i64];omega
   obtain⟨s,b,off,hx,hok,rfl,_,c0,c1,c2,c3,pa,pc,c4,hpc,hV⟩:=(HL.out.off hO (fun _ _ _ c=>c)).at hlt
   have hkn:(k:Int)<(n:Int):=by omega
   have HX:=hid (half_set (ixs l) 0 HN.out hlt (ixs_get hx))
   obtain⟨fd,th,ix,ln,pl⟩:=s
   dsimp only at c0 c1 c2 c3 c4 HX
   obtain⟨m,hm⟩:∃ m,m=pl.length:=⟨_,rfl⟩
   rw[<-hm]at c4
   obtain⟨wa,hwa⟩:∃ wa,wa=wr.alloc (.cells #[.int .i64 fd,.int .i64 th,.int .i64 ix,.int .i64 ln,.slice pa m pc] 45):=⟨_,rfl⟩
   have hOa:Off (fun _=>False) wr wa:=by rw[hwa];exact(Off.refl _ wr).alloc _
   obtain⟨g0,g1,g2,g3,g4⟩:=cells5 (show wa.heap[wr.heap.size]?=some (.cells #[.int .i64 fd,.int .i64 th,.int .i64 ix,.int .i64 ln,.slice pa m pc] 45 (0,0)) by rw[hwa];exact heap_new' rfl _)
   have hI2:=hr.off hOa (fun c=>c)
   have m0:=hI2.cell (half_at (ixs l) 0 HN.out hlt)
   have fz:=frozen_of_heap hI2 k
   have lt:=heap_lt hI2
   have HI2:=hid hI2
   have HWa:=hid hwa
   have HOa:=hid (hO.trans hOa (fun _ _ c=>c))
   have hlb:b<wr.heap.size:=World.block_lt_of_cell? wr _ c0
   clear hx hr hO hok hV hpc hm hwa hOa hI2
   go_upto_region 5 with fail
   rw[<-HWa.out]
   clear c0 c1 c2 c3 c4 hlb
   go_wp2
   go_roundw
   case rel=>exact⟨k+1,by omega,by simp,by rw[<-HX.out];exact HI2.out.store k ix,HOa.out.setCell (fun c=>by have:=HB.out;dsimp only at c;omega) _⟩
   case measure=>simp[intOf];omega
  obtain rfl:n=k:=by omega
  rw[List.take_of_length_le (by rw[HN.out];exact Nat.le_refl _),Nat.sub_self,List.replicate_zero,List.append_nil]at hr
  have HR:=hid hr
  have HO:=hid hO
  have hnn:¬(n:Int)<(n:Int):=by omega
  clear hr hO
  go_wp2
  refine bodyPost_ret (results_tmp rfl _ _ _) rfl ?_
  refine⟨_,rfl,⟨some ⟨B,0,none⟩,n,by rw[<-HN.out];rfl,by rw[<-HN.out];unfold maxLen;omega,fun x hx=>?_,fun _=>⟨B,0,rfl,by rw[HB.out];exact Nat.le_refl _,fun j x hj=>by rw[Nat.zero_add];exact HR.out.cell hj⟩⟩,HO.out⟩
  unfold ixs at hx
  obtain⟨s,hs,rfl⟩:=List.mem_map.1 hx
  exact(HS.out s hs).2.2.1
theorem set_same {α:Type} {xs:List α} {k:Nat} {x:α} (h:xs[k]?=some x):xs.set k x=xs:=by
 obtain⟨hk,e⟩:=List.getElem?_eq_some_iff.1 h
 rw[<-e];exact List.set_getElem_self hk
theorem column_par (l:List Sh) (a:Option Addr) (n cap:Nat) (hn:n=l.length) (hl:n<=100000) (c:Int) (_hc:I64 c) (S:Nat->Prop) (w:World) (h:ShsAt w (.slice a n cap) l S) :
  Calls Tryz.prog 68 #[.slice a n cap,.int .i64 c] w fun e w'=>∃ v,e=.returned v/\LsAt w' v (colN l c) (fun k=>w.heap.size<=k)/\Off (fun _=>False) w w':=by
 have hmk:=run_make_el n hl w
 have HN:=hid (show n=(colN l c).length by rw[colN_length];exact hn)
 obtain⟨W1,hW1⟩:∃ W1,W1=w.alloc (.cells (flat4 (List.replicate n 0)).toArray 66):=⟨_,rfl⟩
 obtain⟨B,hB⟩:∃ B,B=w.heap.size:=⟨_,rfl⟩
 have HO1:=hid (show Off (fun _=>False) w W1 by rw[hW1];exact(Off.refl _ w).alloc _)
 have HI:=hid (show NumsAt W1 B 66 ((colN l c).take 0++List.replicate (n-0) 0) by
  rw[List.take_zero,List.nil_append,Nat.sub_zero]
  unfold NumsAt;rw[hW1,hB];exact heap_new' rfl _)
 have HB:=hid hB
 have HW1:=hid hW1
 have HL:=hid h
 clear hn h hW1 hB
 go_enter Tryz.func68,Tryz.ntmps68
 go_wp2_with fail
 rw[<-HW1.out,<-HB.out]
 clear hmk
 go_loopw [6,13] (fun x i wr=>∃ k:Nat,k<=n/\i=.int .i64 k/\NumsAt wr B 66 ((colN l c).take k++List.replicate (n-k) 0)/\Off (fun _=>False) w wr) (fun _ i _=>n-(intOf i).toNat)
 case atStart=>exact⟨0,Nat.zero_le _,rfl,HI.out,HO1.out⟩
 case round =>
  obtain⟨k,hk,rfl,hr,hO⟩:=hrel
  by_cases hlt:k<n
  ·have w2:IntKind.i64.wrap ((k:Int)+1)=(k:Int)+1:=by rw[IntKind.wrap_i64];omega
   obtain⟨s,b,off,hx,hok,rfl,_,c0,c1,c2,c3,pa,pc,c4,hpc,hV⟩:=(HL.out.off hO (fun _ _ _ c=>c)).at hlt
   have hkn:(k:Int)<(n:Int):=by omega
   have HX:=hid hx
   obtain⟨fd,th,ix,ln,pl⟩:=s
   dsimp only at c0 c1 c2 c3 c4 hV
   obtain⟨m,hm⟩:∃ m,m=pl.length:=⟨_,rfl⟩
   rw[<-hm]at c4 hV
   obtain⟨wa,hwa⟩:∃ wa,wa=wr.alloc (.cells #[.int .i64 fd,.int .i64 th,.int .i64 ix,.int .i64 ln,.slice pa m pc] 45):=⟨_,rfl⟩
   have hOa:Off (fun _=>False) wr wa:=by rw[hwa];exact(Off.refl _ wr).alloc _
   obtain⟨g0,g1,g2,g3,g4⟩:=cells5 (show wa.heap[wr.heap.size]?=some (.cells #[.int .i64 fd,.int .i64 th,.int .i64 ix,.int .i64 ln,.slice pa m pc] 45 (0,0)) by rw[hwa];exact heap_new' rfl _)
   have hI2:=hr.off hOa (fun c=>c)
   have HWa:=hid hwa
   have hlb:b<wr.heap.size:=World.block_lt_of_cell? wr _ c0
   clear hx hr hok hpc
   by_cases hc0:c<0
   ·have i0:decide (0<=c)=false:=decide_eq_false (by omega)
    have HXv:=hid (half_set (colN l (c)) 0 HN.out hlt (show(colN l (c))[k]?=some 0 by
     unfold colN;rw[List.getElem?_map,HX.out]
     show some (if 0<=(c) then pl.getD (c).toNat 0 else 0)=some 0
     rw[if_neg (by omega)]))
    have HEq:=hid (show((colN l (c)).take k++List.replicate (n-k) 0)=(colN l (c)).take (k+1)++List.replicate (n-(k+1)) 0 by
     rw[<-HXv.out]
     exact(set_same (half_at (colN l (c)) 0 HN.out hlt)).symm)
    have HI2:=hid hI2
    have HOa:=hid (hO.trans hOa (fun _ _ c=>c))
    clear hO hV hm hOa hI2 hwa
    go_upto_region 5 with fail
    rw[<-HWa.out]
    clear c0 c1 c2 c3 c4 hlb
    go_wp2
    go_roundw
    case rel=>exact⟨k+1,by omega,by simp,by rw[<-HEq.out];exact HI2.out,HOa.out⟩
    case measure=>simp[intOf];omega
   obtain⟨q,rfl⟩:∃ q:Nat,c=(q:Int):=Int.eq_ofNat_of_zero_le (by omega)
   by_cases hqm:q<m
   ·have i0:decide ((0:Int)<=(q:Int))=true:=decide_eq_true (by omega)
    have i2:decide ((q:Int)<(m:Int))=true:=decide_eq_true (by omega)
    have i3:(q:Int)<(m:Int):=by omega
    obtain⟨x,hx2⟩:∃ x,pl[q]?=some x:=⟨_,List.getElem?_eq_getElem (by omega)⟩
    have HXv:=hid (half_set (colN l (q:Int)) 0 HN.out hlt (show(colN l (q:Int))[k]?=some x by
     unfold colN;rw[List.getElem?_map,HX.out]
     show some (if 0<=(q:Int) then pl.getD (q:Int).toNat 0 else 0)=some x
     rw[if_pos (by omega),Int.toNat_natCast,List.getD_eq_getElem?_getD,hx2];rfl))
    have hv:=hV.off hOa (fun _ _ _ c=>c)
    obtain⟨eb,eo,rfl,_,e0,e1,e2,e3⟩:=hv.get hx2
    have hleb:eb<wa.heap.size:=World.block_lt_of_cell? wa _ e0
    clear hv hx2
    have HI2:=hid hI2
    have HOa:=hid (hO.trans hOa (fun _ _ c=>c))
    obtain⟨m0,m1,m2,m3⟩:=NumsAt.cell hI2 (half_at (colN l (q:Int)) 0 HN.out hlt)
    have fz:=fun j=>NumsAt.frozen hI2 j
    have lt:=NumsAt.lt hI2
    clear hO hV hm hOa hI2 hwa
    go_upto_region 5 with fail
    rw[<-HWa.out]
    clear c0 c1 c2 c3 c4 hlb
    go_wp2
    go_roundw
    case rel=>exact⟨k+1,by omega,by simp,by rw[<-HXv.out];exact HI2.out.store (by rw[half_len _ _ HN.out (by omega)];exact hlt) x,setCells_in_at HOa.out (fun c=>by have:=HB.out;omega) (words4 x)⟩
    case measure=>simp[intOf];omega
   have i0:decide ((0:Int)<=(q:Int))=true:=decide_eq_true (by omega)
   have i2:decide ((q:Int)<(m:Int))=false:=decide_eq_false (by omega)
   have HXv:=hid (half_set (colN l ((q:Int))) 0 HN.out hlt (show(colN l ((q:Int)))[k]?=some 0 by
    unfold colN;rw[List.getElem?_map,HX.out]
    show some (if 0<=((q:Int)) then pl.getD ((q:Int)).toNat 0 else 0)=some 0
    rw[if_pos (by omega),Int.toNat_natCast,List.getD_eq_getElem?_getD,List.getElem?_eq_none (by omega)];rfl))
   have HEq:=hid (show((colN l ((q:Int))).take k++List.replicate (n-k) 0)=(colN l ((q:Int))).take (k+1)++List.replicate (n-(k+1)) 0 by
    rw[<-HXv.out]
    exact(set_same (half_at (colN l ((q:Int))) 0 HN.out hlt)).symm)
   have HI2:=hid hI2
   have HOa:=hid (hO.trans hOa (fun _ _ c=>c))
   clear hO hV hm hOa hI2 hwa
   go_upto_region 5 with fail
   rw[<-HWa.out]
   clear c0 c1 c2 c3 c4 hlb
   go_wp2
   go_roundw
   case rel=>exact⟨k+1,by omega,by simp,by rw[<-HEq.out];exact HI2.out,HOa.out⟩
   case measure=>simp[intOf];omega
  obtain rfl:n=k:=by omega
  rw[List.take_of_length_le (by rw[HN.out];exact Nat.le_refl _),Nat.sub_self,List.replicate_zero,List.append_nil]at hr
  have HR:=hid hr
  have HO:=hid hO
  have hnn:¬(n:Int)<(n:Int):=by omega
  clear hr hO
  go_wp2
  refine bodyPost_ret (results_tmp rfl _ _ _) rfl ?_
  refine⟨_,rfl,⟨some ⟨B,0,none⟩,n,by rw[<-HN.out];rfl,by rw[<-HN.out];exact hl,fun _=>⟨B,0,rfl,by rw[HB.out];exact Nat.le_refl _,fun j x hj=>?_⟩⟩,HO.out⟩
  obtain⟨q0,q1,q2,q3⟩:=HR.out.cell hj
  exact⟨by rw[Nat.zero_add];exact q0,by rw[Nat.zero_add];exact q1,by rw[Nat.zero_add];exact q2,by rw[Nat.zero_add];exact q3⟩
end
section
open Go.RowKit
attribute [local go_sem ↓] Go.wp_at_zero Go.wp_at_succ
set_option maxRecDepth 100000
set_option maxHeartbeats 4000000
theorem mk_andB (c d:Bool):bits .and .u64 (mk c) (mk d)=mk (c&&d):=by cases c <;> cases d <;> rfl
theorem fget_par (id:Int):∃ (q:Int) (p i r s:Nat),p<R256/\(Kn id->p=modN id)/\∀ W,TabAt W->Calls Tryz.prog 65 #[.int .i64 id] W fun e w'=>e=.returned (.tuple #[FV q p i r s,.int .i64 (if Kn id then 0 else 3)])/\Off (fun _=>False) W w':=by
 by_cases hk:Kn id
 ·obtain⟨h1,h2⟩:=modN_pos hk
  rw[if_pos hk]
  exact⟨_,_,_,_,_,h2,fun _=>rfl,fun W hT=>fget_in id (modN id) h2 h1 rfl W hT⟩
 rw[if_neg hk]
 refine⟨0,0,0,0,0,by decide +kernel,fun h=>absurd h hk,fun W hT=>fget_none id ?_ W hT⟩
 unfold modN
 rw[if_neg (fun h=>hk (.inl h)),if_neg (fun h=>hk (.inr h))]
theorem containsall_par (q:Int) (p i r s:Nat) (hp:p<R256) (pl:List Nat) (a:Option Addr) (n cap:Nat) (hn:n=pl.length) (hl:n<=5000) (S:Nat->Prop) (w:World) (hV:VsAt w (.slice a n cap) pl S) :
  Calls Tryz.prog 86 #[FV q p i r s,.slice a n cap] w fun e w'=>e=.returned (.int .u64 (mk (pl.all fun x=>decide (x<p))))/\Off (fun _=>False) w w':=by
 have HN:=hid hn
 have HV:=hid hV
 have HP:=hid hp
 obtain⟨W0,hW0⟩:∃ W0,W0=w.alloc (.cells #[.int .i64 q,.int .u64 (wd p 0),.int .u64 (wd p 1),.int .u64 (wd p 2),.int .u64 (wd p 3),.int .u64 i,.int .u64 (wd r 0),.int .u64 (wd r 1),.int .u64 (wd r 2),.int .u64 (wd r 3),.int .u64 (wd s 0),.int .u64 (wd s 1),.int .u64 (wd s 2),.int .u64 (wd s 3)] 104):=⟨_,rfl⟩
 have HG0:=hid (show W0.heap[w.heap.size]?=some (.cells #[.int .i64 q,.int .u64 (wd p 0),.int .u64 (wd p 1),.int .u64 (wd p 2),.int .u64 (wd p 3),.int .u64 i,.int .u64 (wd r 0),.int .u64 (wd r 1),.int .u64 (wd r 2),.int .u64 (wd r 3),.int .u64 (wd s 0),.int .u64 (wd s 1),.int .u64 (wd s 2),.int .u64 (wd s 3)] 104 (0,0)) by rw[hW0];exact heap_new' rfl _)
 have HO0:=hid (show Off (fun _=>False) w W0 by rw[hW0];exact(Off.refl _ w).alloc _)
 have HW0:=hid hW0
 obtain⟨c,hc⟩:∃ c,c=mk (pl.all fun x=>decide (x<p)):=⟨_,rfl⟩
 rw[<-hc]
 have HC:=hid hc
 clear hn hV hp hW0 hc
 go_enter Tryz.func86,Tryz.ntmps86
 go_wp2_with fail
 rw[<-HW0.out]
 go_loopw [5,10] (fun u j wr=>∃ k:Nat,k<=n/\j=.int .i64 k/\u=.int .u64 (mk ((pl.take k).all fun x=>decide (x<p)))/\Off (fun _=>False) W0 wr) (fun _ j _=>n-(intOf j).toNat)
 case atStart=>exact⟨0,Nat.zero_le _,rfl,rfl,Off.refl _ _⟩
 case round =>
  obtain⟨k,hk,rfl,rfl,hO⟩:=hrel
  obtain⟨b0,hb0⟩:∃ b0,b0=((pl.take k).all fun x=>decide (x<p)):=⟨_,rfl⟩
  rw[<-hb0]
  by_cases hlt:k<n
  ·have w2:IntKind.i64.wrap ((k:Int)+1)=(k:Int)+1:=by rw[IntKind.wrap_i64];omega
   have hkn:(k:Int)<(n:Int):=by omega
   obtain⟨x,hx⟩:∃ x,pl[k]?=some x:=⟨_,List.getElem?_eq_getElem (by rw[<-HN.out];exact hlt)⟩
   have hxr:=HV.out.len.2.2 x (List.mem_of_getElem? hx)
   obtain⟨b,o,rfl,_,c0,c1,c2,c3⟩:=((HV.out.off HO0.out (fun _ _ _ c=>c)).off hO (fun _ _ _ c=>c)).get hx
   have FX:=hid (fun W=>contains_any q p i r s x HP.out hxr W)
   have HNx:=hid (show((pl.take (k+1)).all fun x=>decide (x<p))=(b0&&lessN x p) by rw[List.take_add_one,hx,List.all_append,<-hb0];simp[lessN])
   have hlb:b<wr.heap.size:=World.block_lt_of_cell? wr _ c0
   obtain⟨wa,hwa⟩:∃ wa,wa=wr.alloc (.cells #[.int .u64 (wd x 0),.int .u64 (wd x 1),.int .u64 (wd x 2),.int .u64 (wd x 3)] 66):=⟨_,rfl⟩
   have hOa:Off (fun _=>False) wr wa:=by rw[hwa];exact(Off.refl _ wr).alloc _
   obtain⟨x0,x1,x2,x3⟩:=cells4 (show wa.heap[wr.heap.size]?=some (.cells #[.int .u64 (wd x 0),.int .u64 (wd x 1),.int .u64 (wd x 2),.int .u64 (wd x 3)] 66 (0,0)) by rw[hwa];exact heap_new' rfl _)
   obtain⟨f0,f1,f2,f3,f4,f5,f6,f7,f8,f9,f10,f11,f12,f13⟩:=fv_cells ((hO.trans hOa (fun _ _ c=>c)).heap HG0.out (fun c=>c))
   have lq:=heap_lt ((hO.trans hOa (fun _ _ c=>c)).heap HG0.out (fun c=>c))
   obtain⟨y,hy⟩:∃ y,y=lessN x p:=⟨_,rfl⟩
   rw[<-hy]at FX HNx
   have han:=mk_andB b0 y
   have HWa:=hid hwa
   have HOa:=hid (hO.trans hOa (fun _ _ c=>c))
   clear hx hxr hwa hOa hO hb0 hy
   go_upto_region 5 with fail
   rw[<-HWa.out]
   clear c0 c1 c2 c3 hlb
   go_wp2_with fail
   refine(FX.out _).mono ?_
   rintro e wc ⟨rfl,hOc⟩
   have HOc:=hid (HOa.out.trans hOc (fun _ _ c=>c))
   clear hOc x0 x1 x2 x3 f0 f1 f2 f3 f4 f5 f6 f7 f8 f9 f10 f11 f12 f13 lq
   go_wp2
   go_roundw
   case rel=>exact⟨k+1,by omega,by simp,by rw[HNx.out],HOc.out⟩
   case measure=>simp[intOf];omega
  obtain rfl:n=k:=by omega
  rw[List.take_of_length_le (by rw[HN.out];exact Nat.le_refl _)]at hb0
  have HB:=hid (show mk b0=c by rw[HC.out,hb0])
  have HO:=hid (HO0.out.trans hO (fun _ _ c=>c))
  have hnn:¬(n:Int)<(n:Int):=by omega
  clear hO hb0
  go_wp2
  refine bodyPost_ret (results_tmp rfl _ _ _) rfl ?_
  exact⟨by rw[<-HB.out];rfl,HO.out⟩
theorem share_par (z:Sh) (hz:z.ok) (hl:z.pl.length<=5000) (pa:Option Addr) (pc:Nat) (_hpc:z.pl.length<=pc) (S:Nat->Prop) (w:World) (hV:VsAt w (.slice pa z.pl.length pc) z.pl S) (hT:TabAt w) :
  Calls Tryz.prog 59 #[z.val (.slice pa z.pl.length pc)] w fun e w'=>e=.returned (.int .i64 (shN z:Int))/\Off (fun _=>False) w w':=by
 obtain⟨c,hc⟩:∃ c,c=shN z:=⟨_,rfl⟩
 rw[<-hc]
 have FN:=hid (fun W=>count_any z.ln hz.2.2.2.1 W)
 obtain⟨fd,th,ix,ln,pl⟩:=z
 obtain⟨q,p,i,r,s,hp,hpm0,hg⟩:=fget_par fd
 have HPM:=hid hpm0
 clear hpm0
 unfold Sh.val
 dsimp only at FN hV hl hc ⊢
 obtain⟨n,hn⟩:∃ n,n=pl.length:=⟨_,rfl⟩
 replace hc:c=shN ⟨fd,th,ix,ln,pl⟩:=hc
 rw[<-hn]at hV hl ⊢
 have HN:=hid hn
 have FC:=hid (fun W (hO:Off (fun _=>False) w W)=>containsall_par q p i r s hp pl pa n pc hn hl S W (hV.off hO (fun _ _ _ c=>c)))
 obtain⟨cn,hcn⟩:∃ cn,cn=cntI ln:=⟨_,rfl⟩
 rw[<-hcn]at FN
 obtain⟨W0,hW0⟩:∃ W0,W0=w.alloc (.cells #[.int .i64 fd,.int .i64 th,.int .i64 ix,.int .i64 ln,.slice pa n pc] 45):=⟨_,rfl⟩
 have HG0:=hid (show W0.heap[w.heap.size]?=some (.cells #[.int .i64 fd,.int .i64 th,.int .i64 ix,.int .i64 ln,.slice pa n pc] 45 (0,0)) by rw[hW0];exact heap_new' rfl _)
 have HO0:=hid (show Off (fun _=>False) w W0 by rw[hW0];exact(Off.refl _ w).alloc _)
 have HT0:=hid (hT.off HO0.out)
 have HW0:=hid hW0
 clear hW0 hT hz hV hl hn
 by_cases hk:Kn fd
 ·rw[if_pos hk]at hg
  have FG:=hid hg
  clear hg
  have FA:=hid (fun W=>within_any th 1 255 W)
  by_cases hw0:1<=th/\th<=255
  ·rw[show decide (1<=th/\th<=255)=true from decide_eq_true hw0]at FA
   have FB:=hid (fun W=>within_any ix 1 255 W)
   by_cases hw1:1<=ix/\ix<=255
   ·rw[show decide (1<=ix/\ix<=255)=true from decide_eq_true hw1]at FB
    have FD:=hid (fun W=>within_any ln 0 65535 W)
    by_cases hw2:0<=ln/\ln<=65535
    ·rw[show decide (0<=ln/\ln<=65535)=true from decide_eq_true hw2]at FD
     by_cases hlen:n=cntI ln
     ·have hln:pl.length=cntI ln:=HN.out.symm.trans hlen
      have i1':((n:Int) != (cn:Int))=false:=by rw[hcn,<-hlen];simp
      by_cases hall:(pl.all fun x=>decide (x<p))=true
      ·obtain rfl:c=0:=by
        rw[hc]
        unfold shN;dsimp only
        rw[if_neg (fun h=>h hk),if_neg (by omega),if_neg (by omega),if_neg (by omega),if_neg (by omega),if_pos (by have hq:=List.all_eq_true.1 hall;intro x hx;rw[<-HPM.out hk];exact of_decide_eq_true (hq x hx))]
       clear hln
       rw[show(pl.all fun x=>decide (x<p))=true from hall]at FC
       clear hc hlen hcn hall
       go_enter Tryz.func59,Tryz.ntmps59
       go_wp2_with fail
       rw[<-HW0.out]
       refine(FG.out _ HT0.out).mono ?_
       rintro e u ⟨rfl,hO⟩
       obtain⟨wa,hwa⟩:∃ wa,wa=u.alloc (.cells #[.int .i64 q,.int .u64 (wd p 0),.int .u64 (wd p 1),.int .u64 (wd p 2),.int .u64 (wd p 3),.int .u64 i,.int .u64 (wd r 0),.int .u64 (wd r 1),.int .u64 (wd r 2),.int .u64 (wd r 3),.int .u64 (wd s 0),.int .u64 (wd s 1),.int .u64 (wd s 2),.int .u64 (wd s 3)] 104):=⟨_,rfl⟩
       have hOa:Off (fun _=>False) W0 wa:=by rw[hwa];exact hO.alloc _
       have hga:wa.heap[u.heap.size]?=some (.cells #[.int .i64 q,.int .u64 (wd p 0),.int .u64 (wd p 1),.int .u64 (wd p 2),.int .u64 (wd p 3),.int .u64 i,.int .u64 (wd r 0),.int .u64 (wd r 1),.int .u64 (wd r 2),.int .u64 (wd r 3),.int .u64 (wd s 0),.int .u64 (wd s 1),.int .u64 (wd s 2),.int .u64 (wd s 3)] 104 (0,0)):=by rw[hwa];exact heap_new' rfl _
       obtain⟨p0,p1,p2,p3,p4⟩:=cells5 (hOa.heap HG0.out (fun c=>c))
       have lp:=heap_lt (hOa.heap HG0.out (fun c=>c))
       have HGa:=hid hga
       have HOa:=hid (HO0.out.trans hOa (fun _ _ c=>c))
       have HWa:=hid hwa
       clear hO hOa hwa hga
       go_upto_region 2 with fail
       rw[<-HWa.out]
       go_wp2_with fail
       refine(FA.out _).mono ?_
       rintro e w' ⟨rfl,rfl⟩
       go_wp2_with fail
       refine(FB.out _).mono ?_
       rintro e w' ⟨rfl,rfl⟩
       go_wp2_with fail
       refine(FD.out _).mono ?_
       rintro e w' ⟨rfl,rfl⟩
       go_upto_region 10 with fail
       refine wp_region_off (by kernel_rfl) (by kernel_rfl) (fun T _ g hg=>?_)
       have y3:=fun t=>hg.cell p3 t
       have y4:=fun t=>hg.cell p4 t
       have HGg:=hid hg
       clear hg p0 p1 p2 p3 p4
       repeat (go_big_quiet_step (exact HGg.out.call (FN.out _)))
       refine wpQuiet_nil ?_
       rintro wc ⟨t,rfl⟩
       have hOc:=HGg.out.off t
       obtain⟨wb,hwb⟩:∃ wb,wb=g t:=⟨_,rfl⟩
       rw[<-hwb]at hOc ⊢
       obtain⟨f0,f1,f2,f3,f4,f5,f6,f7,f8,f9,f10,f11,f12,f13⟩:=fv_cells (hOc.heap HGa.out (fun c=>c))
       have o4:=y4 t
       rw[<-hwb]at o4
       have lq:=heap_lt (hOc.heap HGa.out (fun c=>c))
       have lp2:=Nat.lt_of_lt_of_le lp hOc.size
       have HOc:=hid (HOa.out.trans hOc (fun _ _ c=>c))
       clear hOc y3 y4 hwb
       go_wp2_with fail
       refine(FC.out _ HOc.out).mono ?_
       rintro e wd ⟨rfl,hO⟩
       have HOd:=hid (HOc.out.trans hO (fun _ _ c=>c))
       clear hO o4 f0 f1 f2 f3 f4 f5 f6 f7 f8 f9 f10 f11 f12 f13
       go_wp2
       go_ret
       exact⟨rfl,HOd.out⟩
      have hall:(pl.all fun x=>decide (x<p))=false:=by simpa using hall
      obtain rfl:c=9:=by
       rw[hc]
       unfold shN;dsimp only
       rw[if_neg (fun h=>h hk),if_neg (by omega),if_neg (by omega),if_neg (by omega),if_neg (by omega),if_neg (fun h=>by rw[<-HPM.out hk]at h;rw[List.all_eq_true.2 (fun x hx=>decide_eq_true (h x hx))]at hall;cases hall)]
      clear hln
      rw[show(pl.all fun x=>decide (x<p))=false from hall]at FC
      clear hc hlen hcn hall
      go_enter Tryz.func59,Tryz.ntmps59
      go_wp2_with fail
      rw[<-HW0.out]
      refine(FG.out _ HT0.out).mono ?_
      rintro e u ⟨rfl,hO⟩
      obtain⟨wa,hwa⟩:∃ wa,wa=u.alloc (.cells #[.int .i64 q,.int .u64 (wd p 0),.int .u64 (wd p 1),.int .u64 (wd p 2),.int .u64 (wd p 3),.int .u64 i,.int .u64 (wd r 0),.int .u64 (wd r 1),.int .u64 (wd r 2),.int .u64 (wd r 3),.int .u64 (wd s 0),.int .u64 (wd s 1),.int .u64 (wd s 2),.int .u64 (wd s 3)] 104):=⟨_,rfl⟩
      have hOa:Off (fun _=>False) W0 wa:=by rw[hwa];exact hO.alloc _
      have hga:wa.heap[u.heap.size]?=some (.cells #[.int .i64 q,.int .u64 (wd p 0),.int .u64 (wd p 1),.int .u64 (wd p 2),.int .u64 (wd p 3),.int .u64 i,.int .u64 (wd r 0),.int .u64 (wd r 1),.int .u64 (wd r 2),.int .u64 (wd r 3),.int .u64 (wd s 0),.int .u64 (wd s 1),.int .u64 (wd s 2),.int .u64 (wd s 3)] 104 (0,0)):=by rw[hwa];exact heap_new' rfl _
      obtain⟨p0,p1,p2,p3,p4⟩:=cells5 (hOa.heap HG0.out (fun c=>c))
      have lp:=heap_lt (hOa.heap HG0.out (fun c=>c))
      have HGa:=hid hga
      have HOa:=hid (HO0.out.trans hOa (fun _ _ c=>c))
      have HWa:=hid hwa
      clear hO hOa hwa hga
      go_upto_region 2 with fail
      rw[<-HWa.out]
      go_wp2_with fail
      refine(FA.out _).mono ?_
      rintro e w' ⟨rfl,rfl⟩
      go_wp2_with fail
      refine(FB.out _).mono ?_
      rintro e w' ⟨rfl,rfl⟩
      go_wp2_with fail
      refine(FD.out _).mono ?_
      rintro e w' ⟨rfl,rfl⟩
      go_upto_region 10 with fail
      refine wp_region_off (by kernel_rfl) (by kernel_rfl) (fun T _ g hg=>?_)
      have y3:=fun t=>hg.cell p3 t
      have y4:=fun t=>hg.cell p4 t
      have HGg:=hid hg
      clear hg p0 p1 p2 p3 p4
      repeat (go_big_quiet_step (exact HGg.out.call (FN.out _)))
      refine wpQuiet_nil ?_
      rintro wc ⟨t,rfl⟩
      have hOc:=HGg.out.off t
      obtain⟨wb,hwb⟩:∃ wb,wb=g t:=⟨_,rfl⟩
      rw[<-hwb]at hOc ⊢
      obtain⟨f0,f1,f2,f3,f4,f5,f6,f7,f8,f9,f10,f11,f12,f13⟩:=fv_cells (hOc.heap HGa.out (fun c=>c))
      have o4:=y4 t
      rw[<-hwb]at o4
      have lq:=heap_lt (hOc.heap HGa.out (fun c=>c))
      have lp2:=Nat.lt_of_lt_of_le lp hOc.size
      have HOc:=hid (HOa.out.trans hOc (fun _ _ c=>c))
      clear hOc y3 y4 hwb
      go_wp2_with fail
      refine(FC.out _ HOc.out).mono ?_
      rintro e wd ⟨rfl,hO⟩
      have HOd:=hid (HOc.out.trans hO (fun _ _ c=>c))
      clear hO o4 f0 f1 f2 f3 f4 f5 f6 f7 f8 f9 f10 f11 f12 f13
      go_wp2
      go_ret
      exact⟨rfl,HOd.out⟩
     have hln:pl.length≠cntI ln:=fun h=>hlen (HN.out.trans h)
     have i1':((n:Int) != (cn:Int))=true:=by rw[hcn];simp;omega
     obtain rfl:c=8:=by
      rw[hc]
      unfold shN;dsimp only
      rw[if_neg (fun h=>h hk),if_neg (by omega),if_neg (by omega),if_neg (by omega),if_pos (by omega)]
     clear hc hlen hcn hln
     go_enter Tryz.func59,Tryz.ntmps59
     go_wp2_with fail
     rw[<-HW0.out]
     refine(FG.out _ HT0.out).mono ?_
     rintro e u ⟨rfl,hO⟩
     obtain⟨wa,hwa⟩:∃ wa,wa=u.alloc (.cells #[.int .i64 q,.int .u64 (wd p 0),.int .u64 (wd p 1),.int .u64 (wd p 2),.int .u64 (wd p 3),.int .u64 i,.int .u64 (wd r 0),.int .u64 (wd r 1),.int .u64 (wd r 2),.int .u64 (wd r 3),.int .u64 (wd s 0),.int .u64 (wd s 1),.int .u64 (wd s 2),.int .u64 (wd s 3)] 104):=⟨_,rfl⟩
     have hOa:Off (fun _=>False) W0 wa:=by rw[hwa];exact hO.alloc _
     have hga:wa.heap[u.heap.size]?=some (.cells #[.int .i64 q,.int .u64 (wd p 0),.int .u64 (wd p 1),.int .u64 (wd p 2),.int .u64 (wd p 3),.int .u64 i,.int .u64 (wd r 0),.int .u64 (wd r 1),.int .u64 (wd r 2),.int .u64 (wd r 3),.int .u64 (wd s 0),.int .u64 (wd s 1),.int .u64 (wd s 2),.int .u64 (wd s 3)] 104 (0,0)):=by rw[hwa];exact heap_new' rfl _
     obtain⟨p0,p1,p2,p3,p4⟩:=cells5 (hOa.heap HG0.out (fun c=>c))
     have lp:=heap_lt (hOa.heap HG0.out (fun c=>c))
     have HGa:=hid hga
     have HOa:=hid (HO0.out.trans hOa (fun _ _ c=>c))
     have HWa:=hid hwa
     clear hO hOa hwa hga
     go_upto_region 2 with fail
     rw[<-HWa.out]
     go_wp2_with fail
     refine(FA.out _).mono ?_
     rintro e w' ⟨rfl,rfl⟩
     go_wp2_with fail
     refine(FB.out _).mono ?_
     rintro e w' ⟨rfl,rfl⟩
     go_wp2_with fail
     refine(FD.out _).mono ?_
     rintro e w' ⟨rfl,rfl⟩
     go_upto_region 10 with fail
     refine wp_region_off (by kernel_rfl) (by kernel_rfl) (fun T _ g hg=>?_)
     have y3:=fun t=>hg.cell p3 t
     have y4:=fun t=>hg.cell p4 t
     have HGg:=hid hg
     clear hg p0 p1 p2 p3 p4
     repeat (go_big_quiet_step (exact HGg.out.call (FN.out _)))
     refine wpQuiet_nil ?_
     rintro wc ⟨t,rfl⟩
     have hOc:=HGg.out.off t
     have HOc:=hid (HOa.out.trans hOc (fun _ _ c=>c))
     clear hOc y3 y4
     go_wp2
     go_ret
     exact⟨rfl,HOc.out⟩
    rw[show decide (0<=ln/\ln<=65535)=false from decide_eq_false hw2]at FD
    obtain rfl:c=6:=by
     rw[hc]
     unfold shN;dsimp only
     rw[if_neg (fun h=>h hk),if_neg (by omega),if_neg (by omega),if_pos (by omega)]
    clear hc
    go_enter Tryz.func59,Tryz.ntmps59
    go_wp2_with fail
    rw[<-HW0.out]
    refine(FG.out _ HT0.out).mono ?_
    rintro e u ⟨rfl,hO⟩
    obtain⟨wa,hwa⟩:∃ wa,wa=u.alloc (.cells #[.int .i64 q,.int .u64 (wd p 0),.int .u64 (wd p 1),.int .u64 (wd p 2),.int .u64 (wd p 3),.int .u64 i,.int .u64 (wd r 0),.int .u64 (wd r 1),.int .u64 (wd r 2),.int .u64 (wd r 3),.int .u64 (wd s 0),.int .u64 (wd s 1),.int .u64 (wd s 2),.int .u64 (wd s 3)] 104):=⟨_,rfl⟩
    have hOa:Off (fun _=>False) W0 wa:=by rw[hwa];exact hO.alloc _
    have hga:wa.heap[u.heap.size]?=some (.cells #[.int .i64 q,.int .u64 (wd p 0),.int .u64 (wd p 1),.int .u64 (wd p 2),.int .u64 (wd p 3),.int .u64 i,.int .u64 (wd r 0),.int .u64 (wd r 1),.int .u64 (wd r 2),.int .u64 (wd r 3),.int .u64 (wd s 0),.int .u64 (wd s 1),.int .u64 (wd s 2),.int .u64 (wd s 3)] 104 (0,0)):=by rw[hwa];exact heap_new' rfl _
    obtain⟨p0,p1,p2,p3,p4⟩:=cells5 (hOa.heap HG0.out (fun c=>c))
    have lp:=heap_lt (hOa.heap HG0.out (fun c=>c))
    have HGa:=hid hga
    have HOa:=hid (HO0.out.trans hOa (fun _ _ c=>c))
    have HWa:=hid hwa
    clear hO hOa hwa hga
    go_upto_region 2 with fail
    rw[<-HWa.out]
    go_wp2_with fail
    refine(FA.out _).mono ?_
    rintro e w' ⟨rfl,rfl⟩
    go_wp2_with fail
    refine(FB.out _).mono ?_
    rintro e w' ⟨rfl,rfl⟩
    go_wp2_with fail
    refine(FD.out _).mono ?_
    rintro e w' ⟨rfl,rfl⟩
    go_wp2
    go_ret
    exact⟨rfl,HOa.out⟩
   rw[show decide (1<=ix/\ix<=255)=false from decide_eq_false hw1]at FB
   obtain rfl:c=12:=by
    rw[hc]
    unfold shN;dsimp only
    rw[if_neg (fun h=>h hk),if_neg (by omega),if_pos (by omega)]
   clear hc
   go_enter Tryz.func59,Tryz.ntmps59
   go_wp2_with fail
   rw[<-HW0.out]
   refine(FG.out _ HT0.out).mono ?_
   rintro e u ⟨rfl,hO⟩
   obtain⟨wa,hwa⟩:∃ wa,wa=u.alloc (.cells #[.int .i64 q,.int .u64 (wd p 0),.int .u64 (wd p 1),.int .u64 (wd p 2),.int .u64 (wd p 3),.int .u64 i,.int .u64 (wd r 0),.int .u64 (wd r 1),.int .u64 (wd r 2),.int .u64 (wd r 3),.int .u64 (wd s 0),.int .u64 (wd s 1),.int .u64 (wd s 2),.int .u64 (wd s 3)] 104):=⟨_,rfl⟩
   have hOa:Off (fun _=>False) W0 wa:=by rw[hwa];exact hO.alloc _
   have hga:wa.heap[u.heap.size]?=some (.cells #[.int .i64 q,.int .u64 (wd p 0),.int .u64 (wd p 1),.int .u64 (wd p 2),.int .u64 (wd p 3),.int .u64 i,.int .u64 (wd r 0),.int .u64 (wd r 1),.int .u64 (wd r 2),.int .u64 (wd r 3),.int .u64 (wd s 0),.int .u64 (wd s 1),.int .u64 (wd s 2),.int .u64 (wd s 3)] 104 (0,0)):=by rw[hwa];exact heap_new' rfl _
   obtain⟨p0,p1,p2,p3,p4⟩:=cells5 (hOa.heap HG0.out (fun c=>c))
   have lp:=heap_lt (hOa.heap HG0.out (fun c=>c))
   have HGa:=hid hga
   have HOa:=hid (HO0.out.trans hOa (fun _ _ c=>c))
   have HWa:=hid hwa
   clear hO hOa hwa hga
   go_upto_region 2 with fail
   rw[<-HWa.out]
   go_wp2_with fail
   refine(FA.out _).mono ?_
   rintro e w' ⟨rfl,rfl⟩
   go_wp2_with fail
   refine(FB.out _).mono ?_
   rintro e w' ⟨rfl,rfl⟩
   go_wp2
   go_ret
   exact⟨rfl,HOa.out⟩
  rw[show decide (1<=th/\th<=255)=false from decide_eq_false hw0]at FA
  obtain rfl:c=4:=by
   rw[hc]
   unfold shN;dsimp only
   rw[if_neg (fun h=>h hk),if_pos (by omega)]
  clear hc
  go_enter Tryz.func59,Tryz.ntmps59
  go_wp2_with fail
  rw[<-HW0.out]
  refine(FG.out _ HT0.out).mono ?_
  rintro e u ⟨rfl,hO⟩
  obtain⟨wa,hwa⟩:∃ wa,wa=u.alloc (.cells #[.int .i64 q,.int .u64 (wd p 0),.int .u64 (wd p 1),.int .u64 (wd p 2),.int .u64 (wd p 3),.int .u64 i,.int .u64 (wd r 0),.int .u64 (wd r 1),.int .u64 (wd r 2),.int .u64 (wd r 3),.int .u64 (wd s 0),.int .u64 (wd s 1),.int .u64 (wd s 2),.int .u64 (wd s 3)] 104):=⟨_,rfl⟩
  have hOa:Off (fun _=>False) W0 wa:=by rw[hwa];exact hO.alloc _
  have hga:wa.heap[u.heap.size]?=some (.cells #[.int .i64 q,.int .u64 (wd p 0),.int .u64 (wd p 1),.int .u64 (wd p 2),.int .u64 (wd p 3),.int .u64 i,.int .u64 (wd r 0),.int .u64 (wd r 1),.int .u64 (wd r 2),.int .u64 (wd r 3),.int .u64 (wd s 0),.int .u64 (wd s 1),.int .u64 (wd s 2),.int .u64 (wd s 3)] 104 (0,0)):=by rw[hwa];exact heap_new' rfl _
  obtain⟨p0,p1,p2,p3,p4⟩:=cells5 (hOa.heap HG0.out (fun c=>c))
  have lp:=heap_lt (hOa.heap HG0.out (fun c=>c))
  have HGa:=hid hga
  have HOa:=hid (HO0.out.trans hOa (fun _ _ c=>c))
  have HWa:=hid hwa
  clear hO hOa hwa hga
  go_upto_region 2 with fail
  rw[<-HWa.out]
  go_wp2_with fail
  refine(FA.out _).mono ?_
  rintro e w' ⟨rfl,rfl⟩
  go_wp2
  go_ret
  exact⟨rfl,HOa.out⟩
 rw[if_neg hk]at hg
 have FG:=hid hg
 clear hg
 obtain rfl:c=3:=by
  rw[hc];unfold shN;dsimp only
  rw[if_pos hk]
 clear hc hcn
 go_enter Tryz.func59,Tryz.ntmps59
 go_wp2_with fail
 rw[<-HW0.out]
 refine(FG.out _ HT0.out).mono ?_
 rintro e u ⟨rfl,hO⟩
 obtain⟨wa,hwa⟩:∃ wa,wa=u.alloc (.cells #[.int .i64 q,.int .u64 (wd p 0),.int .u64 (wd p 1),.int .u64 (wd p 2),.int .u64 (wd p 3),.int .u64 i,.int .u64 (wd r 0),.int .u64 (wd r 1),.int .u64 (wd r 2),.int .u64 (wd r 3),.int .u64 (wd s 0),.int .u64 (wd s 1),.int .u64 (wd s 2),.int .u64 (wd s 3)] 104):=⟨_,rfl⟩
 have hOa:Off (fun _=>False) W0 wa:=by rw[hwa];exact hO.alloc _
 have hga:wa.heap[u.heap.size]?=some (.cells #[.int .i64 q,.int .u64 (wd p 0),.int .u64 (wd p 1),.int .u64 (wd p 2),.int .u64 (wd p 3),.int .u64 i,.int .u64 (wd r 0),.int .u64 (wd r 1),.int .u64 (wd r 2),.int .u64 (wd r 3),.int .u64 (wd s 0),.int .u64 (wd s 1),.int .u64 (wd s 2),.int .u64 (wd s 3)] 104 (0,0)):=by rw[hwa];exact heap_new' rfl _
 obtain⟨p0,p1,p2,p3,p4⟩:=cells5 (hOa.heap HG0.out (fun c=>c))
 have lp:=heap_lt (hOa.heap HG0.out (fun c=>c))
 have HGa:=hid hga
 have HOa:=hid (HO0.out.trans hOa (fun _ _ c=>c))
 have HWa:=hid hwa
 clear hO hOa hwa hga
 go_upto_region 2 with fail
 rw[<-HWa.out]
 go_wp2
 go_ret
 exact⟨rfl,HOa.out⟩
theorem shares_par (l:List Sh) (a:Option Addr) (n cap:Nat) (hn:n=l.length) (hl:n<=100000) (hp:∀ s∈l,s.pl.length<=5000) (S:Nat->Prop) (w:World) (h:ShsAt w (.slice a n cap) l S) (hT:TabAt w) :
  Calls Tryz.prog 36 #[.slice a n cap] w fun e w'=>e=.returned (.int .i64 (shsN l:Int))/\Off (fun _=>False) w w':=by
 obtain⟨c,hc⟩:∃ c,c=shsN l:=⟨_,rfl⟩
 rw[<-hc]
 have HN:=hid hn
 have HC:=hid hc
 have HL:=hid h
 have HP:=hid hp
 have HT:=hid hT
 have FM:=hid (fun W (hO:Off (fun _=>False) w W)=>mixed_any l a n cap hn S W (h.off hO (fun _ _ _ c=>c)))
 have FD:=hid (fun W (hO:Off (fun _=>False) w W)=>dup_any l a n cap hn S W (h.off hO (fun _ _ _ c=>c)))
 obtain⟨bm,hbm⟩:∃ bm,bm=decide (¬OneH l):=⟨_,rfl⟩
 obtain⟨bd,hbd⟩:∃ bd,bd=decide (¬(ixs l).Nodup):=⟨_,rfl⟩
 rw[<-hbm]at FM
 rw[<-hbd]at FD
 have HBm:=hid hbm
 have HBd:=hid hbd
 clear hn hc h hp hT hbm hbd
 go_enter Tryz.func36,Tryz.ntmps36
 go_wp2_with fail
 go_loopw [8] (fun i wr=>∃ k:Nat,k<=n/\i=.int .i64 k/\firstE (l.take k)=0/\Off (fun _=>False) w wr) (fun i _=>n-(intOf i).toNat)
 case atStart=>exact⟨0,Nat.zero_le _,rfl,rfl,Off.refl _ _⟩
 case round =>
  obtain⟨k,hk,rfl,hr,hO⟩:=hrel
  by_cases hlt:k<n
  ·have w2:IntKind.i64.wrap ((k:Int)+1)=(k:Int)+1:=by rw[IntKind.wrap_i64];omega
   obtain⟨s,b,off,hx,hok,rfl,_,c0,c1,c2,c3,pa,pc,c4,hpc,hV⟩:=(HL.out.off hO (fun _ _ _ c=>c)).at hlt
   obtain⟨wa,hwa⟩:∃ wa,wa=wr.alloc (.cells #[.int .i64 s.fd,.int .i64 s.th,.int .i64 s.ix,.int .i64 s.ln,.slice pa s.pl.length pc] 45):=⟨_,rfl⟩
   have hOa:Off (fun _=>False) wr wa:=by rw[hwa];exact(Off.refl _ wr).alloc _
   obtain⟨g0,g1,g2,g3,g4⟩:=cells5 (show wa.heap[wr.heap.size]?=some (.cells #[.int .i64 s.fd,.int .i64 s.th,.int .i64 s.ix,.int .i64 s.ln,.slice pa s.pl.length pc] 45 (0,0)) by rw[hwa];exact heap_new' rfl _)
   have FC:=hid (share_par s hok (HP.out s (List.mem_of_getElem? hx)) pa pc hpc _ wa (hV.off hOa (fun _ _ _ c=>c)) (HT.out.off (hO.trans hOa (fun _ _ c=>c))))
   obtain⟨r,hr2⟩:∃ r,r=shN s:=⟨_,rfl⟩
   rw[<-hr2]at FC
   unfold Sh.val at FC
   have HX:=hid hx
   have HR:=hid hr
   have HR2:=hid hr2
   have HOa:=hid (hO.trans hOa (fun _ _ c=>c))
   have HWa:=hid hwa
   have hlb:b<wr.heap.size:=World.block_lt_of_cell? wr _ c0
   have hkn:(k:Int)<(n:Int):=by omega
   have hzl:∃ z,z=s.pl.length:=⟨_,rfl⟩
   obtain⟨z,hz⟩:=hzl
   rw[<-hz]at c4 g4 FC HWa
   obtain⟨fd,th,ix,ln,pl⟩:=s
   dsimp only at FC c0 c1 c2 c3 c4 g0 g1 g2 g3 g4 HWa
   clear hx hr hr2 hO hok hV hpc hwa hOa hz
   go_upto_region 4 with fail
   rw[<-HWa.out]
   clear c0 c1 c2 c3 c4 hlb
   go_wp2_with fail
   refine FC.out.mono ?_
   rintro e u ⟨rfl,hO⟩
   have HO2:=hid (HOa.out.trans hO (fun _ _ c=>c))
   clear hO FC g0 g1 g2 g3 g4
   by_cases h0:r=0
   ·have HF:=hid ((firstE_cut HR.out HX.out).1.trans (HR2.out.symm.trans h0))
    subst h0
    go_wp2
    go_roundw
    case rel=>exact⟨k+1,by omega,by simp,HF.out,HO2.out⟩
    case measure=>simp[intOf];omega
   have HF:=hid (show c=r by rw[HC.out,HR2.out];exact shsN_err ((firstE_cut HR.out HX.out).2 (by rw[<-HR2.out];exact h0)) (by rw[<-HR2.out];exact h0))
   have hr0:¬((r:Int)=0):=by omega
   go_wp2
   refine bodyPost_ret (results_tmp rfl _ _ _) rfl ?_
   exact⟨by rw[HF.out];rfl,HO2.out⟩
  obtain rfl:n=k:=by omega
  rw[List.take_of_length_le (by rw[<-HN.out];exact Nat.le_refl _)]at hr
  have HR0:=hid hr
  have HO:=hid hO
  have hnn:¬(n:Int)<(n:Int):=by omega
  clear hr hO hlt hk
  go_wp2_with fail
  refine(FM.out _ HO.out).mono ?_
  rintro e u ⟨rfl,hO⟩
  have HO:=hid (HO.out.trans hO (fun _ _ c=>c))
  clear hO FM
  rcases Bool.eq_false_or_eq_true bm with hb | hb
  ·have HB:=hid (show c=14 by rw[HC.out];exact shsN_mix HR0.out (of_decide_eq_true (HBm.out▸hb)))
   subst hb
   go_wp2
   refine bodyPost_ret (results_tmp rfl _ _ _) rfl ?_
   exact⟨by rw[HB.out];rfl,HO.out⟩
  have HH:=hid (show OneH l from Decidable.not_not.1 (of_decide_eq_false (HBm.out▸hb)))
  subst hb
  go_wp2_with fail
  refine(FD.out _ HO.out).mono ?_
  rintro e u' ⟨rfl,hO⟩
  have HO:=hid (HO.out.trans hO (fun _ _ c=>c))
  clear hO FD
  rcases Bool.eq_false_or_eq_true bd with hb | hb
  ·have HB:=hid (show c=15 by rw[HC.out];exact shsN_dup HR0.out HH.out (of_decide_eq_true (HBd.out▸hb)))
   subst hb
   go_wp2
   refine bodyPost_ret (results_tmp rfl _ _ _) rfl ?_
   exact⟨by rw[HB.out];rfl,HO.out⟩
  have HD:=hid (show(ixs l).Nodup from Decidable.not_not.1 (of_decide_eq_false (HBd.out▸hb)))
  subst hb
  by_cases h0:n=0
  ·have HB:=hid (show c=16 by
    have:l=[]:=List.length_eq_zero_iff.1 (by rw[<-HN.out];exact h0)
    rw[HC.out,this];exact shsN_nil)
   subst h0
   have q0:decide ((0:Int)=0)=true:=rfl
   go_wp2
   refine bodyPost_ret (results_tmp rfl _ _ _) rfl ?_
   exact⟨by rw[HB.out];rfl,HO.out⟩
  obtain⟨t,b,off,hy,_,rfl,_,hz⟩:=(HL.out.off HO.out (fun _ _ _ c=>c)).at (show 0<n by omega)
  obtain⟨z0,z1,z2,z3,_,_,z4,_,_⟩:=hz.zero
  have HB:=hid (show c=if (n:Int)<t.th then 16 else 0 by rw[HC.out,HN.out];exact shsN_end HR0.out HH.out HD.out hy)
  obtain⟨fd,th,ix,ln,pl⟩:=t
  dsimp only at z0 z1 z2 z3 z4 HB
  have q0:decide ((n:Int)=0)=false:=decide_eq_false (by omega)
  have hp0:(0:Int)<(n:Int):=by omega
  clear hy hz h0
  by_cases hth:(n:Int)<th
  ·have q1:decide ((n:Int)<th)=true:=decide_eq_true hth
   rw[if_pos hth]at HB
   go_wp2
   refine bodyPost_ret (results_tmp rfl _ _ _) rfl ?_
   exact⟨by rw[HB.out];rfl,HO.out⟩
  have q1:decide ((n:Int)<th)=false:=decide_eq_false hth
  rw[if_neg hth]at HB
  go_wp2
  refine bodyPost_ret (results_tmp rfl _ _ _) rfl ?_
  exact⟨by rw[HB.out];rfl,HO.out⟩
end
end Go.Proofs.YtbkgghhngeibhaaGreatDoor
