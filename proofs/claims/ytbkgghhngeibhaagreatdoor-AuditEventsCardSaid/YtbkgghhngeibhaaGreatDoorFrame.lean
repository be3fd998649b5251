/-
  What a step leaves as it was, told by a set of blocks. Plain facts on worlds; no condition.
  Contracts of mask.FromBit, mask.Choose, mask.IsZero and the reference's Mask over this seat's translation. Conditions: the arguments are words; a list's cells lie in memory as its slice says.
-/
import Derived.JoinedTies
import Derived.Lib.Hide
import Derived.Lib.Walk
import Derived.OpenShut
import Derived.RangeFuncNested
import Derived.Test.YtbkgghhngeibhaaGreatDoorChecked
import Derived.WalkLawsBesides
import Derived.WalkSpells
import Derived.Test.YtbkgghhngeibhaaGreatDoorPlainAll
import Derived.BigQuiet
import Derived.Shelf.Spec.BitsCarry
namespace Go.Proofs.YtbkgghhngeibhaaGreatDoor
open Lib (hid)
section
open Go.RowKit

structure Off (S:Nat->Prop) (w w':World):Prop where
 os:w'.os=w.os
 tape:w'.tape=w.tape
 output:w'.output=w.output
 size:w.heap.size<=w'.heap.size
 block:∀ k,k<w.heap.size->¬S k->w'.heap[k]?=w.heap[k]?
 others:∀ (k:Nat) (o:Obj),w.heap[k]?=some o->o.isCells=false->w'.heap[k]?=some o

theorem heap_lt {w:World} {k:Nat} {o:Obj} (h:w.heap[k]?=some o):k<w.heap.size:=(Array.getElem?_eq_some_iff.1 h).1

theorem Off.refl (S:Nat->Prop) (w:World):Off S w w:=⟨rfl,rfl,rfl,Nat.le_refl _,fun _ _ _=>rfl,fun _ _ h _=>h⟩
theorem Off.mono {S S':Nat->Prop} {w w':World} (h:Off S w w') (hs:∀ k,k<w.heap.size->S k->S' k):Off S' w w' :=
 ⟨h.os,h.tape,h.output,h.size,fun k hk hn=>h.block k hk (fun c=>hn (hs k hk c)),h.others⟩
theorem Off.trans {S S':Nat->Prop} {a b c:World} (h:Off S a b) (k:Off S' b c) (hs:∀ k,k<a.heap.size->S' k->S k):Off S a c :=
 ⟨k.os.trans h.os,k.tape.trans h.tape,k.output.trans h.output,Nat.le_trans h.size k.size,
  fun i hi hn=>(k.block i (Nat.lt_of_lt_of_le hi h.size) (fun c=>hn (hs i hi c))).trans (h.block i hi hn),fun i o hi ho=>k.others i o (h.others i o hi ho) ho⟩
theorem Off.of_grown {S:Nat->Prop} {w w':World} (h:w.grownBy w' none):Off S w w' :=
 ⟨h.os,h.tape,h.output,h.size,fun k hk _=>h.block k hk (by simp),fun k o hk _=>(h.block k (heap_lt hk) (by simp)).trans hk⟩
theorem Off.to_grown {w w':World} (h:Off (fun _=>False) w w'):w.grownBy w' none:=⟨h.os,h.tape,h.output,h.size,fun k hk _=>h.block k hk (fun c=>c)⟩
theorem Off.alloc {S:Nat->Prop} {a w:World} (h:Off S a w) (o:Obj):Off S a (w.alloc o) :=
 h.trans (S':=fun _=>False) (Off.of_grown (World.grownBy_alloc w o none)) (fun _ _ c=>c.elim)
theorem Off.drew {S:Nat->Prop} {a w:World} (h:Off S a w):Off S a w.drew:=⟨h.os,h.tape,h.output,h.size,h.block,h.others⟩
theorem Off.setCell {S:Nat->Prop} {a w:World} (h:Off S a w) {p:Addr} (hp:p.block<a.heap.size->S p.block) (u:Value):Off S a (w.setCell p u) :=
 h.trans (S':=fun k=>k=p.block) ⟨rfl,rfl,rfl,(KeepsOthers.setCell w p u).size,fun k _ hn=>Below.heap_setCell w p u k hn,(KeepsOthers.setCell w p u).same⟩ (fun _ hk e=>by subst e;exact hp hk)
theorem Off.grown {S:Nat->Prop} {a w w':World} {row:Option Nat} (h:Off S a w) (hg:w.grownBy w' row) (hr:∀ k,row=some k->(k<a.heap.size->S k)/\∀ o:Obj,w.heap[k]?=some o->o.isCells=true):Off S a w' :=
 h.trans (S':=fun k=>some k=row) ⟨hg.os,hg.tape,hg.output,hg.size,fun k hk hn=>hg.block k hk hn,(KeepsOthers.of_grownBy hg (fun j o e ho=>(hr j e).2 o ho)).same⟩ (fun k hk e=>(hr k e.symm).1 hk)
theorem Off.below {S:Nat->Prop} {w w':World} (h:Off S w w') {n:Nat} (hn:n<=w.heap.size) (hs:∀ k,k<n->¬S k):Below n w w' :=
 ⟨h.os,h.tape,h.output,h.size,fun k hk=>h.block k (Nat.lt_of_lt_of_le hk hn) (hs k hk)⟩
theorem Off.keeps {S:Nat->Prop} {w w':World} (h:Off S w w'):KeepsOthers w w':=⟨h.size,h.others⟩
theorem Off.cell {S:Nat->Prop} {w w':World} (h:Off S w w') {p:Addr} {v:Value} (hc:w.cell? p=some v) (hp:¬S p.block):w'.cell? p=some v :=
 (World.cell?_of_block (h.block p.block (World.block_lt_of_cell? w p hc) hp)).trans hc
theorem Off.heap {S:Nat->Prop} {w w':World} (h:Off S w w') {k:Nat} {o:Obj} (hk:w.heap[k]?=some o) (hs:¬S k):w'.heap[k]?=some o:=(h.block k (heap_lt hk) hs).trans hk

theorem heap_set {w:World} {b:Nat} {c:Array Value} {T:TypeId} {f:Nat × Nat} (h:w.heap[b]?=some (.cells c T f)) (o:Nat) (u:Value) :
  (w.setCell ⟨b,o,none⟩ u).heap[b]?=some (.cells (c.setIfInBounds o u) T f):=by
 obtain⟨hlt,hk⟩:=Array.getElem?_eq_some_iff.1 h
 show(w.heap.modify b _)[b]?=_
 rw[Array.getElem?_eq_getElem (by rw[Array.size_modify];exact hlt),Array.getElem_modify_self,hk]
 simp
theorem cell_of_heap {w:World} {b:Nat} {c:Array Value} {T:TypeId} {f:Nat × Nat} (h:w.heap[b]?=some (.cells c T f)) (o:Nat):w.cell? ⟨b,o,none⟩=c[o]?:=by simp[World.cell?,h]
theorem XP:(∀ (a:Act) (d:Nat) (v:Value),a.put (some d) v={ a with tmps:=a.tmps.setIfInBounds d v })/\(∀ (a:Act) (v:Value),a.put none v=a)/\(∀ (l:List Value) (i:Nat) (x:Value),l.toArray.setIfInBounds i x=(l.set i x).toArray)/\(∀ (x y:Value) (l:List Value),(x::l).set 0 y=y::l)/\(∀ (x y:Value) (l:List Value) (n:Nat),(x::l).set (n+1) y=x::l.set n y):=⟨fun _ _ _=>rfl,fun _ _=>rfl,fun _ _ _=>by simp,fun _ _ _=>rfl,fun _ _ _ _=>rfl⟩
theorem frozen_of_heap {w:World} {b:Nat} {c:Array Value} {T:TypeId} (h:w.heap[b]?=some (.cells c T (0,0))) (o:Nat):w.frozen? ⟨b,o,none⟩=false:=by simp[World.frozen?,h]
end
section
open Go.RowKit

theorem ret_u64 {a b:Int} (h:a=b):Ending.returned (.int .u64 a)=.returned (.int .u64 b):=by rw[h]

set_option maxHeartbeats 400000 in
theorem frombit_any (a:Int) (h:Word a) (w:World) :
  Calls Tryz.prog 127 #[.int .u64 a] w fun e w'=>e=.returned (.int .u64 (mk (oddB a)))/\w=w':=by
 have e:=neg_and1 a h
 have H:=hid e
 clear e h
 go_enter Tryz.func127,Tryz.ntmps127
 go_wp2
 go_ret
 exact⟨ret_u64 H.out,rfl⟩
set_option maxHeartbeats 400000 in
theorem choose_any (m a b:Int) (hm:Word m) (ha:Word a) (hb:Word b) (w:World) :
  Calls Tryz.prog 148 #[.int .u64 m,.int .u64 a,.int .u64 b] w fun e w'=>e=.returned (.int .u64 (chooseV m a b))/\w=w':=by
 have e:=choose_bits hm ha hb
 have H:=hid e
 clear e hm ha hb
 have hs:(IntKind.u64.signed=true)=False:=by decide
 go_enter Tryz.func148,Tryz.ntmps148
 go_wp2
 go_ret
 exact⟨ret_u64 H.out,rfl⟩
def nth (l:List Int) (k:Nat):Int:=l[k]?.getD 0

def Words (w:World) (sv:Value) (zs:List Int):Prop :=
 ∃ a cap,sv=.slice a zs.length cap/\zs.length<=17592186044416/\(∀ n∈zs,Word n) /\
  (0<zs.length->∃ b off,a=some ⟨b,off,none⟩/\∀ j,j<zs.length->w.cell? ⟨b,off+j,none⟩=some (.int .u64 (nth zs j)))

theorem take_words {zs:List Int} (h:∀ n∈zs,Word n) (k:Nat):∀ n∈zs.take k,Word n:=fun n hn=>h n (List.mem_of_mem_take hn)
theorem get_word {zs:List Int} (h:∀ n∈zs,Word n) {k:Nat} (hk:k<zs.length):Word (nth zs k):=by
 unfold nth;rw[List.getElem?_eq_getElem hk];exact h _ (List.getElem_mem hk)
theorem take_snoc {zs:List Int} {k:Nat} (hk:k<zs.length):zs.take (k+1)=zs.take k++[nth zs k]:=by
 unfold nth;rw[List.take_succ_eq_append_getElem hk,List.getElem?_eq_getElem hk];rfl

def topBit (x:Int):Int:=bits .xor .u64 IntKind.u64.max (bits .or .u64 x (IntKind.u64.wrap (-x))) / 9223372036854775808
theorem neg_word (x:Int):Word (IntKind.u64.wrap x):=by rw[IntKind.wrap_u64];exact⟨by omega,by omega⟩
theorem topBit_eq {x:Int} (h:Word x):topBit x=if x=0 then 1 else 0:=by
 have hw:=or_word h (neg_word (-x))
 have hz:=high_zero h
 have h1:=hw.1
 have h2:=hw.2
 unfold topBit
 rw[not_word hw]
 by_cases e:x=0
 ·have:=hz.2 e
  simp only[e,if_true]at *
  omega
 have:¬_:=fun c=>e (hz.1 c)
 rw[if_neg e]
 omega
theorem topBit_word {x:Int} (h:Word x):Word (topBit x):=by rw[topBit_eq h];split <;> exact⟨by omega,by omega⟩
theorem topBit_odd {zs:List Int} (h:∀ n∈zs,Word n):mk (oddB (topBit (orAll zs)))=mk (zeroB zs):=by
 rw[topBit_eq (orAll_word zs h),<-orAll_zero zs h]
 by_cases e:orAll zs=0 <;> simp[e,oddB]

set_option maxHeartbeats 400000 in
theorem iszero_any (zs:List Int) (sv:Value) (w:World) (hv:Words w sv zs) :
  Calls Tryz.prog 111 #[sv] w fun e w'=>e=.returned (.int .u64 (mk (zeroB zs)))/\w=w':=by
 obtain⟨a,cap,rfl,hlen,hws,hc⟩:=hv
 have HO:=hid (topBit_odd hws)
 have hT:=topBit_word (orAll_word zs hws)
 go_enter Tryz.func111,Tryz.ntmps111
 go_wp2
 go_loop [3,8] (fun t i=>∃ k:Nat,k<=zs.length/\i=.int .i64 k/\t=.int .u64 (orAll (zs.take k))) (fun _ i=>zs.length-(intOf i).toNat)
 case atStart=>exact⟨0,Nat.zero_le _,rfl,rfl⟩
 case round =>
  obtain⟨k,hk,rfl,rfl⟩:=hrel
  by_cases hlt:k<zs.length
  ·obtain⟨b,off,rfl,hcell⟩:=hc (by omega)
   have hck:=hcell k hlt
   have HS:=hid (orAll_snoc (zs.take k) (nth zs k) (take_words hws k) (get_word hws hlt))
   clear hc hcell
   go_wp2
   go_round
   case rel=>exact⟨k+1,by omega,by go_num,by rw[take_snoc hlt,<-HS.out]⟩
   case measure=>simp[intOf];omega
  obtain rfl:k=zs.length:=by omega
  clear hc
  rw[List.take_length]
  go_wp2_with (go_at_call 127;refine(frombit_any (topBit (orAll zs)) hT _).mono ?_;rintro e w' ⟨rfl,rfl⟩)
  go_ret
  exact⟨ret_u64 HO.out,rfl⟩
end
end Go.Proofs.YtbkgghhngeibhaaGreatDoor
