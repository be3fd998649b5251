/-
  A range over a function whose iterator turns memory of its own between the rounds (it notes events on a tape): what such an iterator promises, and the law of the loop, outermost and within a round. Plain facts on the model's loops; no condition.
  The blocks of a tape are told from others by their types; a new list of elements. Plain facts on this seat's types; no condition.
  poly's coefs and noted: an iterator made of another one and a function that notes an event for each index. Conditions: the other iterator's contract; the tape has room for the events; what the loop's body stores into is neither the tape nor what the iterators read.
  Polynomials over lists of numbers: values, sums, multiples, products, quotients, as the loops of poly and of its reference compute them. Plain facts; no condition but those written.
  The tape's events behind steps that leave cells as they are. Plain facts; no condition.
-/
import Derived.Test.YtbkgghhngeibhaaGreatDoorFrame
import Derived.Test.YtbkgghhngeibhaaGreatDoorNumsT
import Derived.LoopIn
import Derived.LoopNIn
import Derived.OwnWalkIn
import Derived.RangeFuncBound
import Derived.Shelf.RegionOpen
import Derived.Test.YtbkgghhngeibhaaGreatDoorPows
namespace Go.Proofs.YtbkgghhngeibhaaGreatDoor
open Lib (hid)
section
open Go.RowKit

def CellsKept (A B:World):Prop:=∀ (k:Nat) (c:Array Value) (t:TypeId) (f:Nat × Nat),A.heap[k]?=some (Obj.cells c t f)->B.heap[k]?=some (Obj.cells c t f)
structure Quiet (n:Nat) (T:Nat->Prop) (A B:World):Prop where
 os:B.os=A.os
 tape:B.tape=A.tape
 output:B.output=A.output
 size:A.heap.size<=B.heap.size
 block:∀ k o,k<n->¬T k->A.heap[k]?=some o->B.heap[k]?=some o
 others:∀ k o,k<n->A.heap[k]?=some o->o.isCells=false->B.heap[k]?=some o
theorem Quiet.trans {n:Nat} {T:Nat->Prop} {A B C:World} (h:Quiet n T A B) (k:Quiet n T B C):Quiet n T A C :=
 ⟨k.os.trans h.os,k.tape.trans h.tape,k.output.trans h.output,Nat.le_trans h.size k.size,fun i o hi ht ho=>k.block i o hi ht (h.block i o hi ht ho),fun i o hi ho hc=>k.others i o hi (h.others i o hi ho hc) hc⟩
theorem Quiet.mono {n m:Nat} {T T':Nat->Prop} {A B:World} (h:Quiet n T A B) (hm:m<=n) (hT:∀ k,k<m->T k->T' k):Quiet m T' A B :=
 ⟨h.os,h.tape,h.output,h.size,fun k o hk ht ho=>h.block k o (Nat.lt_of_lt_of_le hk hm) (fun c=>ht (hT k hk c)) ho,fun k o hk ho hc=>h.others k o (Nat.lt_of_lt_of_le hk hm) ho hc⟩
theorem Off.quiet {n:Nat} {S T:Nat->Prop} {A B:World} (h:Off S A B) (hs:∀ k,k<n->S k->T k):Quiet n T A B :=
 ⟨h.os,h.tape,h.output,h.size,fun k _ hk ht ho=>h.heap ho (fun c=>ht (hs k hk c)),fun k o _ ho hc=>h.others k o ho hc⟩
theorem Quiet.of_grown {n:Nat} {T:Nat->Prop} {A B:World} {row:Option Nat} (h:A.grownBy B row) (hr:∀ r,row=some r->n<=r):Quiet n T A B :=
 ⟨h.os,h.tape,h.output,h.size,fun k o hk _ ho=>(h.block k (heap_lt ho) (fun e=>by have:=hr k e.symm;omega)).trans ho,fun k o hk ho _=>(h.block k (heap_lt ho) (fun e=>by have:=hr k e.symm;omega)).trans ho⟩
theorem Quiet.putObj {n:Nat} {T:Nat->Prop} (A:World) {l:Nat} (o':Obj) (hl:n<=l):Quiet n T A (A.putObj l o'):=Quiet.of_grown (grownBy_putObj' A l o') (fun r e=>by cases e;exact hl)
theorem Off.later' {n:Nat} {S T:Nat->Prop} {w A B:World} (h:Off S w A) (k:Quiet n T A B) (hn:w.heap.size<=n) (hT:∀ k,k<w.heap.size->T k->S k):Off S w B :=
 ⟨k.os.trans h.os,k.tape.trans h.tape,k.output.trans h.output,Nat.le_trans h.size k.size,
  fun i hi hs=>by
   have e:=h.block i hi hs
   obtain⟨o,ho⟩:∃ o,w.heap[i]?=some o:=⟨_,Array.getElem?_eq_getElem hi⟩
   rw[ho]at e ⊢
   exact k.block i o (Nat.lt_of_lt_of_le hi hn) (fun c=>hs (hT i hi c)) e,
  fun i o ho hc=>k.others i o (Nat.lt_of_lt_of_le (heap_lt ho) hn) (h.others i o ho hc) hc⟩
theorem Off.round {S:Nat->Prop} {W Wa W3:World} {l:Nat} {r:Obj} (rb:Obj) (hl:W.heap[l]?=some r) (h1:Off (fun _=>False) W Wa) (h2:Off S (Wa.putObj l rb) W3):Off S W (W3.putObj l r):=by
 have hlt:=heap_lt hl
 have hlt2:l<Wa.heap.size:=Nat.lt_of_lt_of_le hlt h1.size
 have hs2:(Wa.putObj l rb).heap.size=Wa.heap.size:=by simp
 have hs3:l<W3.heap.size:=by have:=h2.size;omega
 refine⟨h2.os.trans h1.os,h2.tape.trans h1.tape,h2.output.trans h1.output,by have a:=h1.size;have b:=h2.size;simp at b ⊢;omega,?_,?_⟩
 ·intro k hk hn
  by_cases e:k=l
  ·subst e;rw[hl];exact World.putObj_heap_same hs3
  rw[World.putObj_heap_other e,h2.block k (by have:=h1.size;omega) hn,World.putObj_heap_other e]
  exact h1.block k hk (fun c=>c)
 intro k o hk ho
 by_cases e:k=l
 ·subst e;rw[hl]at hk;cases hk;exact World.putObj_heap_same hs3
 rw[World.putObj_heap_other e]
 exact h2.others k o (by rw[World.putObj_heap_other e];exact h1.others k o hk ho) ho

def SeqTold {α:Type} (n:Nat) (P:Program) (g:Nat) (lb:Array Value) (encs:α->Array Value) (T Sb:Nat->Prop) (Sx:List α->Prop) (N:Nat) (Post:List α->World->Prop) (w:World):Prop :=
 ∀ (l:Nat) (J:List α->World->Prop) (W:World),Off (fun _=>False) w W->(∀ s A B,J s A->Quiet W.heap.size T A B->J s B) ->
  (∀ pre x W1,J pre W1->pre.length<N->YieldAt Fence.wide (n-1) P l (encs x) W1 fun e W'=>e=.returned (.bool true)/\J (pre++[x]) W'/\Off Sb W1 W')->J [] W ->
  CallsIn Fence.wide n P g (#[.func (.yield l) #[] #[]]++lb) W fun e W'=>(∃ v,e=.returned v)/\∃ xs,Sx xs/\J xs W'/\Post xs W'

theorem rangeFunc_told {α:Type} {n:Nat} {P:Program} {w:World} {g:Operand} {ps:Array Tmp} {assign body:Code} {Q:Exit->Act->World->Prop} {a:Act}
  (h1:1<=n) {gf:Nat} {lb:Array Value} (hg:a.eval g=.func (.func gf) #[] lb) (eg:∀ args w,(callFunc gf args).run P w=.ok (.enter gf args) w)
  {encs:α->Array Value} {T Sb:Nat->Prop} {Sx:List α->Prop} {N:Nat} {Post:List α->World->Prop} (hseq:SeqTold (n-1) P gf lb encs T Sb Sx N Post w)
  (hPost:∀ (xs:List α) (A B:World),Post xs A->Quiet w.heap.size (fun _=>False) A B->CellsKept A B->Post xs B) (hps:∀ x,(encs x).size=ps.size)
  (I:List α->World->Prop) (hI:∀ s A B,I s A->Quiet w.heap.size T A B->I s B) (h0:I [] w)
  (Ax:α->Act->World->Prop) (hAx:∀ (x:α) (a':Act) (A:World) (l:Nat) (o':Obj),Ax x a' A->CellsKept A (A.putObj l o')->Ax x a' (A.putObj l o'))
  (hassign:∀ (l:Nat) (pre:List α) (x:α) (W:World) (K:Act->World->Prop),w.heap.size<=W.heap.size->I pre W->(∀ a' W',Off (fun _=>False) W W'->Ax x a' W'->K a' W') ->
   assign.wpIn (Fence.wide.inRound l) (n-1-1) P (Exit.then K (fun _ _ _=>False)) { tmps:=(ps.zip (encs x)).foldl (fun t (p,v)=>t.setIfInBounds p v) a.tmps,defers:=[] } W)
  (hbody:∀ (l:Nat) (pre:List α) (x:α) (a':Act) (W:World),w.heap.size<=l->(∃ r,W.heap[l]?=some (.loop r))->I pre W->Ax x a' W->pre.length<N ->
   body.wpIn (Fence.wide.inRound l) (n-1-1) P (fun e _ W'=>e=.normal/\Off Sb W W'/\I (pre++[x]) W') a' W)
  (hdone:∀ (D:Nat) (xs:List α) (W:World),w.heap.size<=D->Sx xs->I xs W->Post xs W->W.heap[D]?=some (.deferred (some []))->Q .normal { a with defers:={ target:=.collected D,args:=#[] }::a.defers } W) :
  (Code.rangeFunc g ps assign body).wpIn Fence.wide n P Q a w:=by
 refine wpIn_rangeFunc ?_
 intro fn hfn
 rw[show Fence.wide.round=none from rfl]
 obtain⟨rec,hrec⟩:∃ rec:LoopState->Option Code->Loop,rec=fun st pe=>{ state:=st,pending:=pe,fn,tmps:=a.tmps,params:=ps,assign,body,defers:=w.heap.size }:=⟨_,rfl⟩
 obtain⟨W1,hW1⟩:∃ W1,(w.alloc (.deferred (some []))).alloc (.loop (rec .ready none))=W1:=⟨_,rfl⟩
 have hO1:Off (fun _=>False) w W1:=by rw[<-hW1];exact((Off.refl _ w).alloc _).alloc _
 have hs1:W1.heap.size=w.heap.size+1+1:=by rw[<-hW1];simp
 have hL1:W1.heap[w.heap.size+1]?=some (.loop (rec .ready none)):=by
  rw[<-hW1];have:=World.alloc_heap_new (w.alloc (.deferred (some []))) (.loop (rec .ready none));rwa [World.size_alloc]at this
 have hK1:W1.heap[w.heap.size]?=some (.deferred (some [])):=by
  rw[<-hW1];exact(Below.heap_alloc _ _ _ (by simp)).trans (World.alloc_heap_new w _)
 have hI1:I [] W1:=hI _ _ _ h0 (hO1.quiet (fun _ _ c=>c.elim))
 refine⟨w.heap.size+1,[{ target:=.collected w.heap.size,args:=#[] }],W1,{ target:=.fn (.func gf) lb,args:=#[.func (.yield (w.heap.size+1)) #[] #[]] },W1,gf,
  #[.func (.yield (w.heap.size+1)) #[] #[]]++lb,W1,?_,?_,?_,?_,fun _=>h1,?_⟩
 ·rw[<-hW1,hrec];exact run_enterLoop_outer _ _ _ _ _
 ·simp only[resolve,hg]
  simp[go_sem]
 ·exact fun _ _=>trivial
 ·simp[invoke,go_sem,eg]
 refine(hseq (w.heap.size+1) (fun pre W=>I pre W/\w.heap.size+2<=W.heap.size/\W.heap[w.heap.size+1]?=some (.loop (rec .ready none))/\W.heap[w.heap.size]?=some (.deferred (some [])))
  W1 hO1
  (fun s A B hs hq=>⟨hI s A B hs.1 (hq.mono (by omega) (fun _ _ c=>c)),Nat.le_trans hs.2.1 hq.size,hq.others _ _ (by omega) hs.2.2.1 rfl,hq.others _ _ (by omega) hs.2.2.2 rfl⟩)
  ?_ ⟨hI1,by omega,hL1,hK1⟩).mono ?_
 ·rintro pre x W ⟨hi,hsz,hl,hk⟩ hlen
  have hlt:=heap_lt hl
  have hy:=run_yield (P:=P) (args:=encs x) hl (by rw[hrec];exact hps x)
  rw[hrec]at hy
  refine⟨fn,_,assign,body,hy,roundIn_of_wpIn hfn (hassign _ pre x W _ (by omega) hi ?_)⟩
  clear hy
  intro a' Wa hOa hax
  have hia:=hI _ _ _ hi (hOa.quiet (fun _ _ c=>c.elim))
  have hla:=hOa.others _ _ hl rfl
  have hka:=hOa.others _ _ hk rfl
  have hlta:=heap_lt hla
  refine⟨_,run_beginRound hla (by rw[hrec]),?_⟩
  have hl2:(Wa.putObj (w.heap.size+1) (.loop { rec .ready none with state:=.busy })).heap[w.heap.size+1]?=some (.loop { rec .ready none with state:=.busy }):=World.putObj_heap_same hlta
  have hk2:(Wa.putObj (w.heap.size+1) (.loop { rec .ready none with state:=.busy })).heap[w.heap.size]?=some (.deferred (some [])):=(World.putObj_heap_other (by omega)).trans hka
  have hcl:CellsKept Wa (Wa.putObj (w.heap.size+1) (.loop { rec .ready none with state:=.busy })):=fun k c t f hc=>(World.putObj_heap_other (fun e=>by subst e;rw[hla]at hc;cases hc)).trans hc
  refine wpIn_mono (hbody _ pre x a' _ (by omega) ⟨_,hl2⟩ (hI _ _ _ hia (Quiet.putObj _ _ (by omega))) (hAx x a' _ _ _ hax hcl) hlen) ?_
  rintro e a3 W3 ⟨rfl,hO3,hi3⟩
  have hl3:=hO3.others _ _ hl2 rfl
  have hk3:=hO3.others _ _ hk2 rfl
  have hr:=run_endRound (P:=P) none hl3
  rw[hrec]at hr hl3
  refine⟨_,_,hr,rfl,⟨hI _ _ _ hi3 (Quiet.putObj _ _ (by omega)),?_,?_,(World.putObj_heap_other (by omega)).trans hk3⟩,?_⟩
  ·have:=hOa.size;have:=hO3.size;simp at this ⊢;omega
  ·rw[hrec];exact World.putObj_heap_same (heap_lt hl3)
  rw[hrec]at hl hO3
  exact Off.round _ hl hOa hO3
 rintro e W2 ⟨⟨v,rfl⟩,xs,hS,⟨hi,hsz,hl,hk⟩,hp⟩
 refine⟨none,_,by have:=run_endLoop (P:=P) hl (by rw[hrec];simp);rw[hrec]at this;exact this,?_⟩
 have hq:∀ o',Quiet w.heap.size (fun _=>False) W2 (W2.putObj (w.heap.size+1) o'):=fun o'=>Quiet.putObj _ _ (by omega)
 have hcl:∀ o',CellsKept W2 (W2.putObj (w.heap.size+1) o'):=fun o' k c t f hc=>(World.putObj_heap_other (fun e=>by subst e;rw[hl]at hc;cases hc)).trans hc
 exact hdone _ xs _ (Nat.le_refl _) hS (hI _ _ _ hi (Quiet.putObj _ _ (by omega))) (hPost _ _ _ hp (hq _) (hcl _)) ((World.putObj_heap_other (by omega)).trans hk)

theorem rangeFunc_toldN {α:Type} {n:Nat} {P:Program} {w:World} {g:Operand} {ps:Array Tmp} {assign body:Code} {Q:Exit->Act->World->Prop} {a:Act}
  {l₀:Nat} {r₀:Loop} (hl₀:w.heap[l₀]?=some (.loop r₀)) (h1:1<=n) {gf:Nat} {lb:Array Value} (hg:a.eval g=.func (.func gf) #[] lb) (eg:∀ args w,(callFunc gf args).run P w=.ok (.enter gf args) w)
  {encs:α->Array Value} {T Sb:Nat->Prop} {Sx:List α->Prop} {N:Nat} {Post:List α->World->Prop} (hseq:SeqTold (n-1) P gf lb encs T Sb Sx N Post w)
  (hPost:∀ (xs:List α) (A B:World),Post xs A->Quiet w.heap.size (fun _=>False) A B->CellsKept A B->Post xs B) (hps:∀ x,(encs x).size=ps.size)
  (I:List α->World->Prop) (hI:∀ s A B,I s A->Quiet w.heap.size T A B->I s B) (h0:I [] w)
  (Ax:α->Act->World->Prop) (hAx:∀ (x:α) (a':Act) (A:World) (l:Nat) (o':Obj),Ax x a' A->CellsKept A (A.putObj l o')->Ax x a' (A.putObj l o'))
  (hassign:∀ (l:Nat) (pre:List α) (x:α) (W:World) (K:Act->World->Prop),w.heap.size<=W.heap.size->I pre W->(∀ a' W',Off (fun _=>False) W W'->Ax x a' W'->K a' W') ->
   assign.wpIn (Fence.wide.inRound l) (n-1-1) P (Exit.then K (fun _ _ _=>False)) { tmps:=(ps.zip (encs x)).foldl (fun t (p,v)=>t.setIfInBounds p v) a.tmps,defers:=[] } W)
  (hbody:∀ (l:Nat) (pre:List α) (x:α) (a':Act) (W:World),w.heap.size<=l->(∃ r,W.heap[l]?=some (.loop r))->I pre W->Ax x a' W->pre.length<N ->
   body.wpIn (Fence.wide.inRound l) (n-1-1) P (fun e _ W'=>e=.normal/\Off Sb W W'/\I (pre++[x]) W') a' W)
  (hdone:∀ (xs:List α) (W:World),Sx xs->I xs W->Post xs W->Q .normal a W) :
  (Code.rangeFunc g ps assign body).wpIn (Fence.wide.inRound l₀) n P Q a w:=by
 refine wpIn_rangeFunc ?_
 intro fn hfn
 rw[show(Fence.wide.inRound l₀).round=some l₀ from rfl]
 obtain⟨rec,hrec⟩:∃ rec:LoopState->Option Code->Loop,rec=fun st pe=>{ state:=st,pending:=pe,fn,tmps:=a.tmps,params:=ps,assign,body,defers:=r₀.defers }:=⟨_,rfl⟩
 obtain⟨W1,hW1⟩:∃ W1,w.alloc (.loop (rec .ready none))=W1:=⟨_,rfl⟩
 have hO1:Off (fun _=>False) w W1:=by rw[<-hW1];exact(Off.refl _ w).alloc _
 have hs1:W1.heap.size=w.heap.size+1:=by rw[<-hW1];simp
 have hL1:W1.heap[w.heap.size]?=some (.loop (rec .ready none)):=by rw[<-hW1];exact World.alloc_heap_new w _
 have hI1:I [] W1:=hI _ _ _ h0 (hO1.quiet (fun _ _ c=>c.elim))
 refine⟨w.heap.size,[],W1,{ target:=.fn (.func gf) lb,args:=#[.func (.yield w.heap.size) #[] #[]] },W1,gf,
  #[.func (.yield w.heap.size) #[] #[]]++lb,W1,?_,?_,?_,?_,fun _=>h1,?_⟩
 ·rw[<-hW1,hrec];exact run_enterLoop_inner hl₀ _ _ _ _ _
 ·simp only[resolve,hg]
  simp[go_sem]
 ·exact fun _ _=>trivial
 ·simp[invoke,go_sem,eg]
 refine CallsIn.inRound l₀ ((hseq w.heap.size (fun pre W=>I pre W/\w.heap.size+1<=W.heap.size/\W.heap[w.heap.size]?=some (.loop (rec .ready none)))
  W1 hO1
  (fun s A B hs hq=>⟨hI s A B hs.1 (hq.mono (by omega) (fun _ _ c=>c)),Nat.le_trans hs.2.1 hq.size,hq.others _ _ (by omega) hs.2.2 rfl⟩)
  ?_ ⟨hI1,by omega,hL1⟩).mono ?_)
 ·rintro pre x W ⟨hi,hsz,hl⟩ hlen
  have hlt:=heap_lt hl
  have hy:=run_yield (P:=P) (args:=encs x) hl (by rw[hrec];exact hps x)
  rw[hrec]at hy
  refine⟨fn,_,assign,body,hy,roundIn_of_wpIn hfn (hassign _ pre x W _ (by omega) hi ?_)⟩
  clear hy
  intro a' Wa hOa hax
  have hia:=hI _ _ _ hi (hOa.quiet (fun _ _ c=>c.elim))
  have hla:=hOa.others _ _ hl rfl
  have hlta:=heap_lt hla
  refine⟨_,run_beginRound hla (by rw[hrec]),?_⟩
  have hl2:(Wa.putObj w.heap.size (.loop { rec .ready none with state:=.busy })).heap[w.heap.size]?=some (.loop { rec .ready none with state:=.busy }):=World.putObj_heap_same hlta
  have hcl:CellsKept Wa (Wa.putObj w.heap.size (.loop { rec .ready none with state:=.busy })):=fun k c t f hc=>(World.putObj_heap_other (fun e=>by subst e;rw[hla]at hc;cases hc)).trans hc
  refine wpIn_mono (hbody _ pre x a' _ (Nat.le_refl _) ⟨_,hl2⟩ (hI _ _ _ hia (Quiet.putObj _ _ (Nat.le_refl _))) (hAx x a' _ _ _ hax hcl) hlen) ?_
  rintro e a3 W3 ⟨rfl,hO3,hi3⟩
  have hl3:=hO3.others _ _ hl2 rfl
  have hr:=run_endRound (P:=P) none hl3
  rw[hrec]at hr hl3
  refine⟨_,_,hr,rfl,⟨hI _ _ _ hi3 (Quiet.putObj _ _ (Nat.le_refl _)),?_,?_⟩,?_⟩
  ·have:=hOa.size;have:=hO3.size;simp at this ⊢;omega
  ·rw[hrec];exact World.putObj_heap_same (heap_lt hl3)
  rw[hrec]at hl hO3
  exact Off.round _ hl hOa hO3
 rintro e W2 ⟨⟨v,rfl⟩,xs,hS,⟨hi,hsz,hl⟩,hp⟩
 refine⟨none,_,by have:=run_endLoop (P:=P) hl (by rw[hrec];simp);rw[hrec]at this;exact this,?_⟩
 have hq:∀ o',Quiet w.heap.size (fun _=>False) W2 (W2.putObj w.heap.size o'):=fun o'=>Quiet.putObj _ _ (Nat.le_refl _)
 have hcl:∀ o',CellsKept W2 (W2.putObj w.heap.size o'):=fun o' k c t f hc=>(World.putObj_heap_other (fun e=>by subst e;rw[hl]at hc;cases hc)).trans hc
 exact hdone xs _ hS (hI _ _ _ hi (Quiet.putObj _ _ (Nat.le_refl _))) (hPost _ _ _ hp (hq _) (hcl _))
end
section
open Go.RowKit

def Typed (w:World) (k:Nat):Prop:=∃ c T,w.heap[k]?=some (.cells c T (0,0))/\(T=83\/T=113\/T=115)
theorem TapeG.typed {w:World} {b:Nat} {es:List Ev} {S:Nat->Prop} {nb:Nat} (h:TapeG w b es S nb):TapeG w b es (fun k=>S k/\Typed w k) nb:=by
 obtain⟨sv,ebs,h1,h2,h3,h4,h5,h6,h7,h8⟩:=h
 refine⟨sv,ebs,h1,⟨h2,_,_,h1,.inl rfl⟩,h3,fun k hk=>⟨h4 k hk,?_⟩,h5,h6,fun eb he=>⟨⟨(h7 eb he).1,?_⟩,(h7 eb he).2⟩,h8⟩
 ·obtain⟨cur,hc⟩:=ownBlock_row h3 hk
  exact⟨_,_,hc,.inr (.inl rfl)⟩
 obtain⟨_,c,hc,_⟩:=h7 eb he
 exact⟨_,_,hc,.inr (.inr rfl)⟩
theorem Tp.typed {w:World} {q:Option Addr} {es:List Ev} {S:Nat->Prop} (h:Tp w q es S):Tp w q es (fun k=>S k/\Typed w k):=by
 refine⟨?_,fun k hk=>h.2 k hk.1⟩
 rcases h.1 with hn | ⟨b,hv,ht⟩
 ·exact .inl hn
 exact .inr ⟨b,hv,TapeG.typed ht⟩
theorem not_typed' {w:World} {k:Nat} {c:Array Value} {T0:TypeId} (h:w.heap[k]?=some (.cells c T0 (0,0))) (h1:T0≠83) (h2:T0≠113) (h3:T0≠115):¬Typed w k:=by
 rintro⟨c',T,h4,hT⟩
 rw[h]at h4
 simp only[Option.some.injEq,Obj.cells.injEq]at h4
 obtain⟨_,rfl,_⟩:=h4
 rcases hT with h | h | h
 ·exact h1 h
 ·exact h2 h
 exact h3 h
theorem not_typed {w:World} {k:Nat} {c:Array Value} (h:w.heap[k]?=some (.cells c 66 (0,0))):¬Typed w k:=not_typed' h (by decide) (by decide) (by decide)
theorem elem_info:(Tryz.prog.info? 66).map (fun i=>(i.zero,i.size,i.bytes))=some (some (.agg #[.int .u64 0,.int .u64 0,.int .u64 0,.int .u64 0]),4,32):=by kernel_rfl
theorem made_zero4 (n:Nat):madeCells #[.int .u64 0,.int .u64 0,.int .u64 0,.int .u64 0] (n*4)=(flat4 (List.replicate n 0)).toArray:=by
 rw[flat4_zero]
 apply Array.ext'
 apply List.ext_getElem?
 intro j
 by_cases hj:j<n*4
 ·have h4:j%4=0\/j%4=1\/j%4=2\/j%4=3:=by omega
  simp[madeCells,hj]
  rcases h4 with h | h | h | h <;> simp[h]
 rw[List.getElem?_eq_none (by simp[madeCells];omega),List.getElem?_eq_none (by simp;omega)]
theorem run_make_el (n:Nat) (hn:n<=100000) (w:World):(Instr.makeSlice 43 (.int .i64 n) (.int .i64 n)).run Tryz.prog w=.ok (.slice (some ⟨w.heap.size,0,none⟩) n n) (w.alloc (.cells (flat4 (List.replicate n 0)).toArray 66)):=by
 obtain⟨i0,hi,hz0,hz1,hz2⟩:=info_parts elem_info
 have:=run_make (P:=Tryz.prog) w 43 66 i0 _ Tryz.underlying43 hi hz0 .i64 .i64 (n:Int) (n:Int) (by omega) (Int.le_refl _) (by rw[hz2];omega) (by omega)
 rw[hz1,show(Value.agg #[.int .u64 0,.int .u64 0,.int .u64 0,.int .u64 0]).cells=#[.int .u64 0,.int .u64 0,.int .u64 0,.int .u64 0] from rfl]at this
 rw[<-made_zero4]
 simpa using this
end
section
open Go.RowKit
attribute [local go_sem] Oper.semAt_some wide_fn

theorem round_any {n m l₀ l:Nat} {P:Program} {f:FuncId} {tmps:Array Value} {assign body:Code} {w:World} {R:Ending->World->Prop} (h:RoundIn Fence.wide n P l f tmps assign body w R) :
  RoundIn (Fence.wide.inRound l₀) m P l f tmps assign body w R:=⟨trivial,fun c cs _=>h.2 c cs (room_wide _)⟩
theorem Quiet.cell {n:Nat} {T:Nat->Prop} {A B:World} (h:Quiet n T A B) {p:Addr} {v:Value} (hc:A.cell? p=some v) (hn:p.block<n) (hp:¬T p.block):B.cell? p=some v:=by
 have hb:=World.block_lt_of_cell? A p hc
 have e:A.heap[p.block]?=some A.heap[p.block]:=Array.getElem?_eq_getElem hb
 exact(World.cell?_of_block ((h.block _ _ hn hp e).trans e.symm)).trans hc
theorem Rl.quiet {A B:World} {n Bs:Nat} {v:Value} {xs:List Nat} {Sl T:Nat->Prop} (h:Rl Bs v xs Sl A) (hq:Quiet n T A B) (hb:Bs<n/\¬T Bs) (hs:∀ k,Sl k->k<n/\¬T k):Rl Bs v xs Sl B:=by
 refine⟨hq.block _ _ hb.1 hb.2 h.1,?_⟩
 obtain⟨a,cap,hv,h1,h4⟩:=h.2
 refine⟨a,cap,hv,h1,fun hp=>?_⟩
 obtain⟨b,off,ha,hS,hc⟩:=h4 hp
 refine⟨b,off,ha,hS,fun j x hx=>?_⟩
 obtain⟨c0,c1,c2,c3⟩:=hc j x hx
 have:=hs b hS
 exact⟨hq.cell c0 this.1 this.2,hq.cell c1 this.1 this.2,hq.cell c2 this.1 this.2,hq.cell c3 this.1 this.2⟩

set_option maxHeartbeats 1000000 in
theorem coefs_any (q:Option Addr) (w:World) :
  Calls Tryz.prog 120 #[.pointer q] w fun e w'=>e=.returned (.func (.func 135) #[] #[.pointer (some ⟨w.heap.size,0,none⟩)])/\w'=w.alloc (.cells #[.pointer q] 40):=by
 go_enter Tryz.func120,Tryz.ntmps120
 have hmf:∀ (fn:Fn) (first cap:Array Value) (W:World),(Instr.makeFunc fn first cap).run Tryz.prog W=.ok (.func fn first cap) W:=fun _ _ _ _=>rfl
 go_wp2
 go_ret
 exact⟨rfl,rfl⟩
set_option maxHeartbeats 1000000 in
theorem noted_any (u v:Value) (w:World) (hu:(∃ f c,u=.func f #[] c)) (hv:(∃ f c,v=.func f #[] c)) :
  Calls Tryz.prog 118 #[u,v] w fun e w'=>e=.returned (.func (.func 133) #[] #[.pointer (some ⟨w.heap.size,0,none⟩),.pointer (some ⟨w.heap.size+1,0,none⟩)])/\w'=(w.alloc (.cells #[u] 165)).alloc (.cells #[v] 168):=by
 obtain⟨f1,c1,rfl⟩:=hu
 obtain⟨f2,c2,rfl⟩:=hv
 go_enter Tryz.func118,Tryz.ntmps118
 have hmf:∀ (fn:Fn) (first cap:Array Value) (W:World),(Instr.makeFunc fn first cap).run Tryz.prog W=.ok (.func fn first cap) W:=fun _ _ _ _=>rfl
 go_wp2
 go_ret
 exact⟨by simp,rfl⟩
theorem coefs1_ext (tb:Nat) (q:Option Addr) (es:List Ev) (S:Nat->Prop) (x:Nat) (A:World) (ht:A.heap[tb]?=some (.cells #[.pointer q] 40 (0,0))) (h:Tp A q es S) (hl:es.length<100000) :
  Calls Tryz.prog 135 (#[.int .i64 x]++#[.pointer (some ⟨tb,0,none⟩)]) A fun r B=>r=.returned (.tuple #[])/\Noted A.heap.size q es [((2:Int),(x:Int),(0:Int))] S B/\Off S A B:=by
 have hn:=note_ext q es S A h hl ((2:Int),(x:Int),(0:Int))
 simp only[List.append_toArray,List.cons_append,List.nil_append]
 have k0:=cell_of_heap ht 0
 clear h hl
 go_enter Tryz.func135,Tryz.ntmps135
 go_wp2_with (go_at_call 44;refine hn.mono ?_;rintro r B ⟨rfl,hN,hO⟩)
 go_end0
 exact⟨rfl,hN,hO⟩
theorem mul1_ext (tb ib i:Nat) (q:Option Addr) (es:List Ev) (S:Nat->Prop) (x:Nat) (A:World) (ht:A.heap[tb]?=some (.cells #[.pointer q] 40 (0,0))) (hi:A.heap[ib]?=some (.cells #[.int .i64 i] 3 (0,0))) (h:Tp A q es S) (hl:es.length<100000) :
  Calls Tryz.prog 132 (#[.int .i64 x]++#[.pointer (some ⟨tb,0,none⟩),.pointer (some ⟨ib,0,none⟩)]) A fun r B=>r=.returned (.tuple #[])/\Noted A.heap.size q es [((3:Int),(i:Int),(x:Int))] S B/\Off S A B:=by
 have hn:=note_ext q es S A h hl ((3:Int),(i:Int),(x:Int))
 simp only[List.append_toArray,List.cons_append,List.nil_append]
 have k0:=cell_of_heap ht 0
 have k1:=cell_of_heap hi 0
 clear h hl
 go_enter Tryz.func132,Tryz.ntmps132
 go_wp2_with (go_at_call 44;refine hn.mono ?_;rintro r B ⟨rfl,hN,hO⟩)
 go_end0
 exact⟨rfl,hN,hO⟩
set_option maxRecDepth 100000 in
set_option maxHeartbeats 4000000 in
theorem coefs_told {n:Nat} (hn:3<=n) (ob nb:Nat) (tb:Nat) (gf:Nat) (lbo:Array Value) (eg:∀ args w,(callFunc gf args).run Tryz.prog w=.ok (.enter gf args) w) (ix vx:Nat->Nat) (R:World->Prop) (Sx Sp:List Nat->Prop) (N:Nat)
  (hst:∀ W,R W->SeqStopsK Fence.wide (n-1) Tryz.prog gf lbo (fun x=>#[.int .i64 ((ix x:Nat):Int),V (vx x)]) (fun A B=>R A->R B) Sx Sp N W)
  (nbs:List (Nat × Obj)) (q:Option Addr) (es:List Ev) (S Sb:Nat->Prop) (w:World)
  (hob:(ob,Obj.cells #[.func (.func gf) #[] lbo] 165 (0,0))∈nbs) (hnb:(nb,Obj.cells #[.func (.func 135) #[] #[.pointer (some ⟨tb,0,none⟩)]] 168 (0,0))∈nbs) (htb:(tb,Obj.cells #[.pointer q] 40 (0,0))∈nbs)
  (hfix:∀ p∈nbs,w.heap[p.1]?=some p.2/\¬S p.1/\¬Sb p.1) (hSb:∀ k,Sb k->k<w.heap.size/\¬S k)
  (hRw:R w) (hRq:∀ A B,R A->Quiet w.heap.size (fun k=>S k\/Sb k) A B->R B) (hTp:Tp w q es S) (hl:es.length+N<=100000) :
  SeqTold n Tryz.prog 133 #[.pointer (some ⟨ob,0,none⟩),.pointer (some ⟨nb,0,none⟩)] (fun x=>#[.int .i64 ((ix x:Nat):Int),V (vx x)]) S Sb Sx N (fun xs W'=>Noted w.heap.size q es (xs.map (fun x=>((2:Int),((ix x:Nat):Int),(0:Int)))) S W') w:=by
 intro l J W hO hJ hY h0
 have hsz:=hO.size
 have hlt:∀ p∈nbs,p.1<w.heap.size:=fun p hp=>heap_lt (hfix p hp).1
 have hfixW:∀ p∈nbs,W.heap[p.1]?=some p.2:=fun p hp=>hO.heap (hfix p hp).1 (fun c=>c)
 have hRW:R W:=hRq _ _ hRw (hO.quiet (fun _ _ c=>c.elim))
 have hTW:=hTp.off0 hO
 refine callsIn_of_wp_marks Tryz.func133 rfl trivial ?_ rfl
 simp only[Tryz.ntmps133,List.size_toArray,List.length_cons,List.length_nil,Nat.reduceAdd,Nat.reduceSub,Array.replicate_succ,Array.replicate_zero,List.push_toArray,List.append_toArray,List.nil_append,List.cons_append]
 have k0:W.cell? ⟨ob,0,none⟩=some (.func (.func gf) #[] lbo):=cell_of_heap (hfixW _ hob) 0
 have lto:=Nat.lt_of_lt_of_le (hlt _ hob) hsz
 have HFW:=hid hfixW
 have HFix:=hid hfix
 have HLt:=hid hlt
 have HRW:=hid hRW
 have HTW:=hid hTW
 have H0:=hid h0
 have HY:=hid hY
 have HJ:=hid hJ
 have HO:=hid hO
 clear hfixW hfix hlt hRW hTW h0 hY hJ hO hRw hTp
 gi_wp2
 obtain⟨W5,hW5⟩:∃ W5,W5=W.alloc (.cells #[.func (.yield l) #[] #[]] 181):=⟨_,rfl⟩
 have hO5:Off (fun _=>False) W W5:=by rw[hW5];exact(Off.refl _ W).alloc _
 have g5:W5.heap[W.heap.size]?=some (.cells #[.func (.yield l) #[] #[]] 181):=by rw[hW5];exact heap_new' rfl _
 have hs5:W5.heap.size=W.heap.size+1:=by rw[hW5];simp
 rw[<-hW5]
 obtain⟨yb,hyb⟩:∃ yb,yb=W.heap.size:=⟨_,rfl⟩
 rw[<-hyb]at g5 ⊢
 have hyw:w.heap.size<=yb:=by omega
 clear hyb
 have hsk:=hst W5 (hRq _ _ HRW.out (hO5.quiet (fun _ _ c=>c.elim)))
 have hI0:J [] W5:=HJ.out _ _ _ H0.out (hO5.quiet (fun _ _ c=>c.elim))
 have hT5:=HTW.out.off0 hO5
 have hF5:∀ p∈nbs,W5.heap[p.1]?=some p.2:=fun p hp=>hO5.heap (HFW.out p hp) (fun c=>c)
 have hR5:=hRq _ _ HRW.out (hO5.quiet (n:=w.heap.size) (T:=fun k=>S k\/Sb k) (fun _ _ c=>c.elim))
 clear hW5 hO5
 refine wpIn_rangeFunc_ownH (F:=Fence.wide) (n:=n) rfl (by omega) (gf:=gf) (lb:=lbo) rfl trivial eg hsk (fun h k x=>k (h x))
  (fun A l o o' hl h hc hw hr=>hRq _ _ hr (Quiet.putObj _ _ (by omega))) (Below.refl _ _) (fun _=>by rfl)
  (fun pre A=>J pre A/\R A/\(∀ p∈nbs,A.heap[p.1]?=some p.2)/\A.heap[yb]?=some (.cells #[.func (.yield l) #[] #[]] 181)/\W.heap.size<=A.heap.size/\pre.length<=N/\∃ S',Tp A q (ext q es (pre.map (fun x=>((2:Int),((ix x:Nat):Int),(0:Int))))) S'/\∀ k,S' k->S k\/W.heap.size<=k)
  (fun _ _ _=>False)
  (fun pre A B row hs hg hr=>by
   obtain⟨h1,h2,h3,h4,h5,h6,S',h7,h8⟩:=hs
   have hr':∀ r,row=some r->∃ o:Obj,A.heap[r]?=some o/\o.isCells=false:=fun r e=>(hr r e).2
   refine⟨HJ.out _ _ _ h1 (Quiet.of_grown hg (fun r e=>by have:=(hr r e).1;omega)),hRq _ _ h2 (Quiet.of_grown hg (fun r e=>by have:=(hr r e).1;omega)),fun p hp=>(hg.block _ (heap_lt (h3 p hp)) (fun e=>by have:=(hr _ e.symm).1;have:=HLt.out p hp;omega)).trans (h3 p hp),(grownBy_keeps_cells hg hr' h4 rfl).trans h4,Nat.le_trans h5 hg.size,h6,S',⟨h7.1.kept hg hr',fun b c=>Nat.lt_of_lt_of_le (h7.2 b c) hg.size⟩,h8⟩)
  (fun _ _ _ _ _ hs _ _=>hs)
  ⟨hI0,hR5,hF5,g5,by omega,Nat.zero_le _,S,by rw[show([]:List Nat).map (fun x=>((((2:Int),((ix x:Nat):Int),(0:Int))):Ev))=[] from rfl,ext_nil];exact hT5,fun _ c=>.inl c⟩
  (fun x a' A=>∃ B,A.heap[B]?=some (.cells #[.int .u64 (wd (vx x) 0:Int),.int .u64 (wd (vx x) 1:Int),.int .u64 (wd (vx x) 2:Int),.int .u64 (wd (vx x) 3:Int)] 66 (0,0))/\yb<B/\a'={ tmps:=#[.func (.yield l) #[] #[],.pointer (some ⟨ob,0,none⟩),.pointer (some ⟨nb,0,none⟩),.pointer (some ⟨yb,0,none⟩),.int .i64 ((ix x:Nat):Int),.pointer (some ⟨B,0,none⟩),.func (.func gf) #[] lbo,.int .i64 ((ix x:Nat):Int),V (vx x),undef,undef,undef,undef,undef,undef,undef,undef],defers:=[] })
  (fun x a' _ A C row hs hg hr=>by
   obtain⟨B,h1,h2,h3⟩:=hs
   exact⟨B,(grownBy_keeps_cells hg (fun r e=>(hr r e).2) h1 rfl).trans h1,h2,h3⟩)
  ?assign ?body ?done ?stop
 case assign =>
  rintro l2 pre x A K ⟨h1,h2,h3,h4,h5,h6,S',h7,h8⟩ hK
  obtain⟨j,hj⟩:∃ j,j=ix x:=⟨_,rfl⟩
  obtain⟨y,hy⟩:∃ y,y=vx x:=⟨_,rfl⟩
  rw[<-hy,<-hj]at hK
  rw[<-hy,<-hj]
  have hlt:=heap_lt h4
  clear hy hj hst hsk
  gi_wp2
  have ho:=(Off.refl (fun _=>False) A).alloc (.cells #[.int .u64 (wd y 0),.int .u64 (wd y 1),.int .u64 (wd y 2),.int .u64 (wd y 3)] 66)
  exact hK _ _ (ho.keeps.from _) (fun h=>hRq _ _ h (ho.quiet (fun _ _ c=>c.elim))) ⟨HJ.out _ _ _ h1 (ho.quiet (fun _ _ c=>c.elim)),hRq _ _ h2 (ho.quiet (fun _ _ c=>c.elim)),fun p hp=>ho.heap (h3 p hp) (fun c=>c),ho.heap h4 (fun c=>c),Nat.le_trans h5 ho.size,h6,S',h7.off0 ho,h8⟩ ⟨A.heap.size,World.alloc_heap_new A _,hlt,rfl⟩
 case body =>
  rintro l2 pre x a' A _ _ ⟨h1,h2,h3,h4,h5,h6,S0,h7,h8⟩ ⟨B,hcB,hBt,rfl⟩ hlen
  have h7:=h7.typed
  obtain⟨S',hS'⟩:∃ S':Nat->Prop,S'=fun k=>S0 k/\Typed A k:=⟨_,rfl⟩
  have hyS:¬S' yb:=by rw[hS'];exact fun c=>not_typed' h4 (by decide) (by decide) (by decide) c.2
  have hBS:¬S' B:=by rw[hS'];exact fun c=>not_typed hcB c.2
  have h8:∀ k,S' k->S k\/W.heap.size<=k:=by rw[hS'];exact fun k c=>h8 k c.1
  rw[<-hS']at h7
  clear hS'
  have hlq:=ext_le q es (pre.map (fun x=>((((2:Int),((ix x:Nat):Int),(0:Int))):Ev)))
  rw[List.length_map]at hlq
  have hnote:=CallsIn.inRound l2 (callsIn_wide (n:=n-1-1-1).2 (coefs1_ext tb q _ S' (ix x) A (h3 _ htb) h7 (by omega)))
  simp only[List.append_toArray,List.cons_append,List.nil_append]at hnote
  obtain⟨j,hj⟩:∃ j,j=ix x:=⟨_,rfl⟩
  obtain⟨y,hy⟩:∃ y,y=vx x:=⟨_,rfl⟩
  have hYx:=HY.out pre x
  rw[<-hy,<-hj]at hYx
  rw[<-hj]at hnote
  rw[<-hy,<-hj]
  rw[<-hy]at hcB
  have k1:A.cell? ⟨nb,0,none⟩=some (.func (.func 135) #[] #[.pointer (some ⟨tb,0,none⟩)]):=cell_of_heap (h3 _ hnb) 0
  have HJ1:=hid h1
  have HR1:=hid h2
  have HF1:=hid h3
  have Hy1:=hid h4
  have HT1:=hid h7
  have H8:=hid h8
  have HcB:=hid hcB
  have HYx:=hid hYx
  have Hj:=hid hj
  have Hy:=hid hy
  clear h1 h2 h3 h4 h7 h8 hcB hYx hy hj hst hsk hlq
  gi_wp2
  refine⟨fun _=>by omega,?_⟩
  refine hnote.mono ?_
  rintro r1 A1 ⟨rfl,hN,hO1⟩
  clear k1 hnote
  have hq1:Quiet w.heap.size (fun k=>S k\/Sb k) A A1:=hO1.quiet (fun k hk c=>(H8.out k c).elim .inl (fun c=>by omega))
  have hq2:Quiet W.heap.size S A A1:=hO1.quiet (fun k hk c=>(H8.out k c).elim id (fun c=>by omega))
  have hJ1:=HJ.out _ _ _ HJ1.out hq2
  have hR1:=hRq _ _ HR1.out hq1
  have hF1:∀ p∈nbs,A1.heap[p.1]?=some p.2:=fun p hp=>hO1.heap (HF1.out p hp) (fun c=>(H8.out _ c).elim (HFix.out p hp).2.1 (fun c=>by have:=HLt.out p hp;omega))
  have hy1:=hO1.heap Hy1.out hyS
  have hB1:=hO1.heap HcB.out hBS
  have hs1:=hO1.size
  obtain⟨S2,hT2,h2⟩:=hN
  rw[ext_ext]at hT2
  obtain⟨fn,tmps,assign,body,hy2,hround⟩:=HYx.out A1 hJ1 hlen
  have k2:A1.cell? ⟨yb,0,none⟩=some (.func (.yield l) #[] #[]):=cell_of_heap hy1 0
  obtain⟨e0,e1,e2,e3⟩:=cells4 hB1
  have hround:=round_any (l₀:=l2) (m:=n-1-1-1) hround
  have HR2:=hid hR1
  have HF2:=hid hF1
  have Hy2:=hid hy1
  have HT2:=hid hT2
  have HS2:=hid h2
  have HO1:=hid hO1
  clear hR1 hF1 hy1 hT2 h2 hO1 hq1 hq2 hJ1 hB1 HJ1 HR1 HF1 Hy1 HT1 HYx HcB
  gi_wp2
  refine⟨fun _=>by omega,?_⟩
  refine hround.mono ?_
  rintro e A3 ⟨rfl,hJ3,hO3⟩
  clear hround hy2 k2 e0 e1 e2 e3
  gi_wp2
  have hk13:∀ p∈nbs,A3.heap[p.1]?=some p.2:=fun p hp=>hO3.heap (HF2.out p hp) (HFix.out p hp).2.2
  refine⟨(HO1.out.keeps.trans hO3.keeps).from _,fun _=>hRq _ _ HR2.out (hO3.quiet (fun _ _ c=>.inr c)),hJ3,hRq _ _ HR2.out (hO3.quiet (fun _ _ c=>.inr c)),hk13,hO3.heap Hy2.out (fun c=>by have:=(hSb _ c).1;omega),by have:=hO3.size;omega,by simp;omega,S2,?_,?_⟩
  ·have hh:=HT2.out.off hO3 (fun k c d=>(HS2.out k d).elim (fun d=>(H8.out k d).elim (hSb k c).2 (fun d=>by have:=(hSb k c).1;omega)) (fun d=>by have:=(hSb k c).1;omega))
   rw[Hj.out]at hh
   rw[List.map_append]
   exact hh
  exact fun k c=>(HS2.out k c).elim (H8.out k) (fun c=>.inr (by omega))
 case done =>
  rintro D ys A hD hS ⟨h1,h2,h3,h4,h5,h6,S',h7,h8⟩ hK
  clear hst hsk
  gi_wp2
  refine⟨by simp,.inl ⟨_,_,rfl,run_takeDeferred hK,?_⟩⟩
  refine⟨_,results_none rfl _ _ _,⟨_,rfl⟩,ys,hS,HJ.out _ _ _ h1 (Quiet.putObj _ _ (by omega)),S',?_,fun k c=>(h8 k c).imp id (fun d=>by omega)⟩
  exact⟨h7.1.kept (grownBy_putObj' A D (.deferred none)) (fun r e=>by cases e;exact⟨_,hK,rfl⟩),fun b c=>by have:=h7.2 b c;simpa using this⟩
 case stop =>
  rintro D c pre A _ _ h _
  exact h.elim
set_option maxRecDepth 100000 in
set_option maxHeartbeats 4000000 in
theorem mul_told {n:Nat} (hn:3<=n) (ob nb:Nat) (tb ib i:Nat) (gf:Nat) (lbo:Array Value) (eg:∀ args w,(callFunc gf args).run Tryz.prog w=.ok (.enter gf args) w) (ix vx:Nat->Nat) (R:World->Prop) (Sx Sp:List Nat->Prop) (N:Nat)
  (hst:∀ W,R W->SeqStopsK Fence.wide (n-1) Tryz.prog gf lbo (fun x=>#[.int .i64 ((ix x:Nat):Int),V (vx x)]) (fun A B=>R A->R B) Sx Sp N W)
  (nbs:List (Nat × Obj)) (q:Option Addr) (es:List Ev) (S Sb:Nat->Prop) (w:World)
  (hob:(ob,Obj.cells #[.func (.func gf) #[] lbo] 165 (0,0))∈nbs) (hnb:(nb,Obj.cells #[.func (.func 132) #[] #[.pointer (some ⟨tb,0,none⟩),.pointer (some ⟨ib,0,none⟩)]] 168 (0,0))∈nbs) (htb:(tb,Obj.cells #[.pointer q] 40 (0,0))∈nbs) (hib:(ib,Obj.cells #[.int .i64 i] 3 (0,0))∈nbs)
  (hfix:∀ p∈nbs,w.heap[p.1]?=some p.2/\¬S p.1/\¬Sb p.1) (hSb:∀ k,Sb k->k<w.heap.size/\¬S k)
  (hRw:R w) (hRq:∀ A B,R A->Quiet w.heap.size (fun k=>S k\/Sb k) A B->R B) (hTp:Tp w q es S) (hl:es.length+N<=100000) :
  SeqTold n Tryz.prog 133 #[.pointer (some ⟨ob,0,none⟩),.pointer (some ⟨nb,0,none⟩)] (fun x=>#[.int .i64 ((ix x:Nat):Int),V (vx x)]) S Sb Sx N (fun xs W'=>Noted w.heap.size q es (xs.map (fun x=>((3:Int),(i:Int),((ix x:Nat):Int)))) S W') w:=by
 intro l J W hO hJ hY h0
 have hsz:=hO.size
 have hlt:∀ p∈nbs,p.1<w.heap.size:=fun p hp=>heap_lt (hfix p hp).1
 have hfixW:∀ p∈nbs,W.heap[p.1]?=some p.2:=fun p hp=>hO.heap (hfix p hp).1 (fun c=>c)
 have hRW:R W:=hRq _ _ hRw (hO.quiet (fun _ _ c=>c.elim))
 have hTW:=hTp.off0 hO
 refine callsIn_of_wp_marks Tryz.func133 rfl trivial ?_ rfl
 simp only[Tryz.ntmps133,List.size_toArray,List.length_cons,List.length_nil,Nat.reduceAdd,Nat.reduceSub,Array.replicate_succ,Array.replicate_zero,List.push_toArray,List.append_toArray,List.nil_append,List.cons_append]
 have k0:W.cell? ⟨ob,0,none⟩=some (.func (.func gf) #[] lbo):=cell_of_heap (hfixW _ hob) 0
 have lto:=Nat.lt_of_lt_of_le (hlt _ hob) hsz
 have HFW:=hid hfixW
 have HFix:=hid hfix
 have HLt:=hid hlt
 have HRW:=hid hRW
 have HTW:=hid hTW
 have H0:=hid h0
 have HY:=hid hY
 have HJ:=hid hJ
 have HO:=hid hO
 clear hfixW hfix hlt hRW hTW h0 hY hJ hO hRw hTp
 gi_wp2
 obtain⟨W5,hW5⟩:∃ W5,W5=W.alloc (.cells #[.func (.yield l) #[] #[]] 181):=⟨_,rfl⟩
 have hO5:Off (fun _=>False) W W5:=by rw[hW5];exact(Off.refl _ W).alloc _
 have g5:W5.heap[W.heap.size]?=some (.cells #[.func (.yield l) #[] #[]] 181):=by rw[hW5];exact heap_new' rfl _
 have hs5:W5.heap.size=W.heap.size+1:=by rw[hW5];simp
 rw[<-hW5]
 obtain⟨yb,hyb⟩:∃ yb,yb=W.heap.size:=⟨_,rfl⟩
 rw[<-hyb]at g5 ⊢
 have hyw:w.heap.size<=yb:=by omega
 clear hyb
 have hsk:=hst W5 (hRq _ _ HRW.out (hO5.quiet (fun _ _ c=>c.elim)))
 have hI0:J [] W5:=HJ.out _ _ _ H0.out (hO5.quiet (fun _ _ c=>c.elim))
 have hT5:=HTW.out.off0 hO5
 have hF5:∀ p∈nbs,W5.heap[p.1]?=some p.2:=fun p hp=>hO5.heap (HFW.out p hp) (fun c=>c)
 have hR5:=hRq _ _ HRW.out (hO5.quiet (n:=w.heap.size) (T:=fun k=>S k\/Sb k) (fun _ _ c=>c.elim))
 clear hW5 hO5
 refine wpIn_rangeFunc_ownH (F:=Fence.wide) (n:=n) rfl (by omega) (gf:=gf) (lb:=lbo) rfl trivial eg hsk (fun h k x=>k (h x))
  (fun A l o o' hl h hc hw hr=>hRq _ _ hr (Quiet.putObj _ _ (by omega))) (Below.refl _ _) (fun _=>by rfl)
  (fun pre A=>J pre A/\R A/\(∀ p∈nbs,A.heap[p.1]?=some p.2)/\A.heap[yb]?=some (.cells #[.func (.yield l) #[] #[]] 181)/\W.heap.size<=A.heap.size/\pre.length<=N/\∃ S',Tp A q (ext q es (pre.map (fun x=>((3:Int),(i:Int),((ix x:Nat):Int))))) S'/\∀ k,S' k->S k\/W.heap.size<=k)
  (fun _ _ _=>False)
  (fun pre A B row hs hg hr=>by
   obtain⟨h1,h2,h3,h4,h5,h6,S',h7,h8⟩:=hs
   have hr':∀ r,row=some r->∃ o:Obj,A.heap[r]?=some o/\o.isCells=false:=fun r e=>(hr r e).2
   refine⟨HJ.out _ _ _ h1 (Quiet.of_grown hg (fun r e=>by have:=(hr r e).1;omega)),hRq _ _ h2 (Quiet.of_grown hg (fun r e=>by have:=(hr r e).1;omega)),fun p hp=>(hg.block _ (heap_lt (h3 p hp)) (fun e=>by have:=(hr _ e.symm).1;have:=HLt.out p hp;omega)).trans (h3 p hp),(grownBy_keeps_cells hg hr' h4 rfl).trans h4,Nat.le_trans h5 hg.size,h6,S',⟨h7.1.kept hg hr',fun b c=>Nat.lt_of_lt_of_le (h7.2 b c) hg.size⟩,h8⟩)
  (fun _ _ _ _ _ hs _ _=>hs)
  ⟨hI0,hR5,hF5,g5,by omega,Nat.zero_le _,S,by rw[show([]:List Nat).map (fun x=>((((3:Int),(i:Int),((ix x:Nat):Int))):Ev))=[] from rfl,ext_nil];exact hT5,fun _ c=>.inl c⟩
  (fun x a' A=>∃ B,A.heap[B]?=some (.cells #[.int .u64 (wd (vx x) 0:Int),.int .u64 (wd (vx x) 1:Int),.int .u64 (wd (vx x) 2:Int),.int .u64 (wd (vx x) 3:Int)] 66 (0,0))/\yb<B/\a'={ tmps:=#[.func (.yield l) #[] #[],.pointer (some ⟨ob,0,none⟩),.pointer (some ⟨nb,0,none⟩),.pointer (some ⟨yb,0,none⟩),.int .i64 ((ix x:Nat):Int),.pointer (some ⟨B,0,none⟩),.func (.func gf) #[] lbo,.int .i64 ((ix x:Nat):Int),V (vx x),undef,undef,undef,undef,undef,undef,undef,undef],defers:=[] })
  (fun x a' _ A C row hs hg hr=>by
   obtain⟨B,h1,h2,h3⟩:=hs
   exact⟨B,(grownBy_keeps_cells hg (fun r e=>(hr r e).2) h1 rfl).trans h1,h2,h3⟩)
  ?assign ?body ?done ?stop
 case assign =>
  rintro l2 pre x A K ⟨h1,h2,h3,h4,h5,h6,S',h7,h8⟩ hK
  obtain⟨j,hj⟩:∃ j,j=ix x:=⟨_,rfl⟩
  obtain⟨y,hy⟩:∃ y,y=vx x:=⟨_,rfl⟩
  rw[<-hy,<-hj]at hK
  rw[<-hy,<-hj]
  have hlt:=heap_lt h4
  clear hy hj hst hsk
  gi_wp2
  have ho:=(Off.refl (fun _=>False) A).alloc (.cells #[.int .u64 (wd y 0),.int .u64 (wd y 1),.int .u64 (wd y 2),.int .u64 (wd y 3)] 66)
  exact hK _ _ (ho.keeps.from _) (fun h=>hRq _ _ h (ho.quiet (fun _ _ c=>c.elim))) ⟨HJ.out _ _ _ h1 (ho.quiet (fun _ _ c=>c.elim)),hRq _ _ h2 (ho.quiet (fun _ _ c=>c.elim)),fun p hp=>ho.heap (h3 p hp) (fun c=>c),ho.heap h4 (fun c=>c),Nat.le_trans h5 ho.size,h6,S',h7.off0 ho,h8⟩ ⟨A.heap.size,World.alloc_heap_new A _,hlt,rfl⟩
 case body =>
  rintro l2 pre x a' A _ _ ⟨h1,h2,h3,h4,h5,h6,S0,h7,h8⟩ ⟨B,hcB,hBt,rfl⟩ hlen
  have h7:=h7.typed
  obtain⟨S',hS'⟩:∃ S':Nat->Prop,S'=fun k=>S0 k/\Typed A k:=⟨_,rfl⟩
  have hyS:¬S' yb:=by rw[hS'];exact fun c=>not_typed' h4 (by decide) (by decide) (by decide) c.2
  have hBS:¬S' B:=by rw[hS'];exact fun c=>not_typed hcB c.2
  have h8:∀ k,S' k->S k\/W.heap.size<=k:=by rw[hS'];exact fun k c=>h8 k c.1
  rw[<-hS']at h7
  clear hS'
  have hlq:=ext_le q es (pre.map (fun x=>((((3:Int),(i:Int),((ix x:Nat):Int))):Ev)))
  rw[List.length_map]at hlq
  have hnote:=CallsIn.inRound l2 (callsIn_wide (n:=n-1-1-1).2 (mul1_ext tb ib i q _ S' (ix x) A (h3 _ htb) (h3 _ hib) h7 (by omega)))
  simp only[List.append_toArray,List.cons_append,List.nil_append]at hnote
  obtain⟨j,hj⟩:∃ j,j=ix x:=⟨_,rfl⟩
  obtain⟨y,hy⟩:∃ y,y=vx x:=⟨_,rfl⟩
  have hYx:=HY.out pre x
  rw[<-hy,<-hj]at hYx
  rw[<-hj]at hnote
  rw[<-hy,<-hj]
  rw[<-hy]at hcB
  have k1:A.cell? ⟨nb,0,none⟩=some (.func (.func 132) #[] #[.pointer (some ⟨tb,0,none⟩),.pointer (some ⟨ib,0,none⟩)]):=cell_of_heap (h3 _ hnb) 0
  have HJ1:=hid h1
  have HR1:=hid h2
  have HF1:=hid h3
  have Hy1:=hid h4
  have HT1:=hid h7
  have H8:=hid h8
  have HcB:=hid hcB
  have HYx:=hid hYx
  have Hj:=hid hj
  have Hy:=hid hy
  clear h1 h2 h3 h4 h7 h8 hcB hYx hy hj hst hsk hlq
  gi_wp2
  refine⟨fun _=>by omega,?_⟩
  refine hnote.mono ?_
  rintro r1 A1 ⟨rfl,hN,hO1⟩
  clear k1 hnote
  have hq1:Quiet w.heap.size (fun k=>S k\/Sb k) A A1:=hO1.quiet (fun k hk c=>(H8.out k c).elim .inl (fun c=>by omega))
  have hq2:Quiet W.heap.size S A A1:=hO1.quiet (fun k hk c=>(H8.out k c).elim id (fun c=>by omega))
  have hJ1:=HJ.out _ _ _ HJ1.out hq2
  have hR1:=hRq _ _ HR1.out hq1
  have hF1:∀ p∈nbs,A1.heap[p.1]?=some p.2:=fun p hp=>hO1.heap (HF1.out p hp) (fun c=>(H8.out _ c).elim (HFix.out p hp).2.1 (fun c=>by have:=HLt.out p hp;omega))
  have hy1:=hO1.heap Hy1.out hyS
  have hB1:=hO1.heap HcB.out hBS
  have hs1:=hO1.size
  obtain⟨S2,hT2,h2⟩:=hN
  rw[ext_ext]at hT2
  obtain⟨fn,tmps,assign,body,hy2,hround⟩:=HYx.out A1 hJ1 hlen
  have k2:A1.cell? ⟨yb,0,none⟩=some (.func (.yield l) #[] #[]):=cell_of_heap hy1 0
  obtain⟨e0,e1,e2,e3⟩:=cells4 hB1
  have hround:=round_any (l₀:=l2) (m:=n-1-1-1) hround
  have HR2:=hid hR1
  have HF2:=hid hF1
  have Hy2:=hid hy1
  have HT2:=hid hT2
  have HS2:=hid h2
  have HO1:=hid hO1
  clear hR1 hF1 hy1 hT2 h2 hO1 hq1 hq2 hJ1 hB1 HJ1 HR1 HF1 Hy1 HT1 HYx HcB
  gi_wp2
  refine⟨fun _=>by omega,?_⟩
  refine hround.mono ?_
  rintro e A3 ⟨rfl,hJ3,hO3⟩
  clear hround hy2 k2 e0 e1 e2 e3
  gi_wp2
  have hk13:∀ p∈nbs,A3.heap[p.1]?=some p.2:=fun p hp=>hO3.heap (HF2.out p hp) (HFix.out p hp).2.2
  refine⟨(HO1.out.keeps.trans hO3.keeps).from _,fun _=>hRq _ _ HR2.out (hO3.quiet (fun _ _ c=>.inr c)),hJ3,hRq _ _ HR2.out (hO3.quiet (fun _ _ c=>.inr c)),hk13,hO3.heap Hy2.out (fun c=>by have:=(hSb _ c).1;omega),by have:=hO3.size;omega,by simp;omega,S2,?_,?_⟩
  ·have hh:=HT2.out.off hO3 (fun k c d=>(HS2.out k d).elim (fun d=>(H8.out k d).elim (hSb k c).2 (fun d=>by have:=(hSb k c).1;omega)) (fun d=>by have:=(hSb k c).1;omega))
   rw[Hj.out]at hh
   rw[List.map_append]
   exact hh
  exact fun k c=>(HS2.out k c).elim (H8.out k) (fun c=>.inr (by omega))
 case done =>
  rintro D ys A hD hS ⟨h1,h2,h3,h4,h5,h6,S',h7,h8⟩ hK
  clear hst hsk
  gi_wp2
  refine⟨by simp,.inl ⟨_,_,rfl,run_takeDeferred hK,?_⟩⟩
  refine⟨_,results_none rfl _ _ _,⟨_,rfl⟩,ys,hS,HJ.out _ _ _ h1 (Quiet.putObj _ _ (by omega)),S',?_,fun k c=>(h8 k c).imp id (fun d=>by omega)⟩
  exact⟨h7.1.kept (grownBy_putObj' A D (.deferred none)) (fun r e=>by cases e;exact⟨_,hK,rfl⟩),fun b c=>by have:=h7.2 b c;simpa using this⟩
 case stop =>
  rintro D c pre A _ _ h _
  exact h.elim
end
section

theorem md_add {p a b c d:Nat} (h:a%p=b%p) (k:c%p=d%p):(a+c)%p=(b+d)%p:=by rw[Nat.add_mod,h,k,<-Nat.add_mod]
theorem md_mul {p a b c d:Nat} (h:a%p=b%p) (k:c%p=d%p):(a*c)%p=(b*d)%p:=by rw[Nat.mul_mod,h,k,<-Nat.mul_mod]
theorem md_self (p a:Nat):a%p%p=a%p:=Nat.mod_mod _ _
theorem getD_set (L:List Nat) (j v i:Nat) (hj:j<L.length):(L.set j v).getD i 0=if i=j then v else L.getD i 0:=by
 rw[List.getD_eq_getElem?_getD,List.getD_eq_getElem?_getD]
 by_cases h:i=j
 ·subst h;rw[List.getElem?_set_self hj,if_pos rfl];rfl
 rw[List.getElem?_set_ne (fun e=>h e.symm),if_neg h]
theorem getD_range (f:Nat->Nat) (n i:Nat):((List.range n).map f).getD i 0=if i<n then f i else 0:=by
 rw[List.getD_eq_getElem?_getD,List.getElem?_map]
 by_cases h:i<n
 ·rw[List.getElem?_range h,if_pos h];rfl
 rw[List.getElem?_eq_none (by simp;omega),if_neg h];rfl
theorem getD_over {L:List Nat} {i:Nat} (h:L.length<=i):L.getD i 0=0:=by
 rw[List.getD_eq_getElem?_getD,List.getElem?_eq_none h];rfl
theorem ext_getD {L M:List Nat} (h:L.length=M.length) (k:∀ i,i<L.length->L.getD i 0=M.getD i 0):L=M:=by
 apply List.ext_getElem?
 intro i
 by_cases hi:i<L.length
 ·have:=k i hi
  rw[List.getD_eq_getElem?_getD,List.getD_eq_getElem?_getD,List.getElem?_eq_getElem hi,List.getElem?_eq_getElem (by omega)]at this
  rw[List.getElem?_eq_getElem hi,List.getElem?_eq_getElem (by omega)]
  simpa using this
 rw[List.getElem?_eq_none (by omega),List.getElem?_eq_none (by omega)]

def pv:List Nat->Nat->Nat
 | [],_=>0
 | v::r,a=>v+a*pv r a
def sg (f:Nat->Nat):Nat->Nat->Nat
 | 0,_=>0
 | n+1,a=>sg f n a+f n*a^n
theorem pv_append (a:Nat):∀ xs ys:List Nat,pv (xs++ys) a=pv xs a+a^xs.length*pv ys a
 | [],ys=>by simp[pv]
 | x::r,ys=>by
  simp only[List.cons_append,pv,List.length_cons,pv_append a r ys,Nat.pow_succ,Nat.mul_add,Nat.add_assoc]
  rw[Nat.mul_comm (a^r.length) a,Nat.mul_assoc]
theorem pv_range (f:Nat->Nat) (a:Nat):∀ n,pv ((List.range n).map f) a=sg f n a
 | 0=>rfl
 | n+1=>by
  rw[List.range_succ,List.map_append,pv_append,pv_range f a n]
  simp[sg,pv,Nat.mul_comm]
theorem sg_congr {f g:Nat->Nat} {a p:Nat}:∀ n,(∀ i,i<n->f i%p=g i%p)->sg f n a%p=sg g n a%p
 | 0,_=>rfl
 | n+1,h=>md_add (sg_congr n (fun i hi=>h i (by omega))) (md_mul (h n (by omega)) rfl)
theorem sg_add (f g:Nat->Nat) (a:Nat):∀ n,sg (fun i=>f i+g i) n a=sg f n a+sg g n a
 | 0=>rfl
 | n+1=>by simp only[sg,sg_add f g a n,Nat.add_mul];omega
theorem sg_more (f:Nat->Nat) (a:Nat) {n:Nat} (h:∀ i,n<=i->f i=0):∀ m,n<=m->sg f m a=sg f n a
 | 0,hm=>by
  have:n=0:=by omega
  subst this;rfl
 | m+1,hm=>by
  by_cases e:n=m+1
  ·subst e;rfl
  simp only[sg,sg_more f a h m (by omega),h m (by omega)];simp
theorem pv_sg (vs:List Nat) (a:Nat) {n:Nat} (h:vs.length<=n):pv vs a=sg (fun i=>vs.getD i 0) n a:=by
 rw[sg_more _ a (n:=vs.length) (fun i hi=>getD_over hi) n h,<-pv_range]
 congr 1
 apply ext_getD (by simp)
 intro i hi
 rw[getD_range,if_pos hi]
theorem drop_cons (vs:List Nat) {i:Nat} (h:i<vs.length):vs.drop i=vs.getD i 0::vs.drop (i+1):=by
 rw[List.drop_eq_getElem_cons h,List.getD_eq_getElem?_getD,List.getElem?_eq_getElem h];rfl

/-! Eval and Quotient: from the last coefficient on. -/
def hor (p:Nat) (vs:List Nat) (a:Nat) (pre:List Nat):Nat:=pre.foldl (fun s x=>(s*a%p+vs.getD (vs.length-1-x) 0)%p) 0
theorem hor_snoc (p:Nat) (vs:List Nat) (a:Nat) (pre:List Nat) (x:Nat):hor p vs a (pre++[x])=(hor p vs a pre*a%p+vs.getD (vs.length-1-x) 0)%p:=by unfold hor;rw[List.foldl_append];rfl
theorem hor_range (p:Nat) (vs:List Nat) (a:Nat):∀ k,k<=vs.length->hor p vs a (List.range k)=pv (vs.drop (vs.length-k)) a%p
 | 0,_=>by simp[hor,pv]
 | k+1,h=>by
  rw[List.range_succ,hor_snoc,hor_range p vs a k (by omega),drop_cons vs (i:=vs.length-(k+1)) (by omega),show vs.length-(k+1)+1=vs.length-k by omega,show vs.length-1-k=vs.length-(k+1) by omega]
  simp only[pv]
  rw[Nat.add_comm (vs.getD _ 0)]
  refine md_add ?_ rfl
  rw[md_self,Nat.mul_comm a]
  exact md_mul (md_self _ _) rfl
theorem hor_done (p:Nat) (vs:List Nat) (a:Nat):hor p vs a (List.range vs.length)=pv vs a%p:=by
 rw[hor_range p vs a _ (Nat.le_refl _),Nat.sub_self];rfl
def qls (p:Nat) (vs:List Nat) (a:Nat) (pre:List Nat):List Nat:=(pre.foldl (fun(s:List Nat × List Nat) x=>(s.1++[x],s.2.set (vs.length-1-x) (hor p vs a s.1))) ([],List.replicate vs.length 0)).2
theorem qls_fst (p:Nat) (vs:List Nat) (a:Nat) (L:List Nat):∀ (pre q:List Nat),(pre.foldl (fun(s:List Nat × List Nat) x=>(s.1++[x],s.2.set (vs.length-1-x) (hor p vs a s.1))) (q,L)).1=q++pre:=by
 intro pre
 induction pre generalizing L with
 | nil=>intro q;simp
 | cons x r ih=>intro q;rw[List.foldl_cons,ih];simp
theorem qls_snoc (p:Nat) (vs:List Nat) (a:Nat) (pre:List Nat) (x:Nat):qls p vs a (pre++[x])=(qls p vs a pre).set (vs.length-1-x) (hor p vs a pre):=by
 unfold qls
 rw[List.foldl_append,List.foldl_cons,List.foldl_nil]
 simp only
 rw[qls_fst];rfl
theorem qls_length (p:Nat) (vs:List Nat) (a:Nat):∀ pre,(qls p vs a pre).length=vs.length:=by
 refine snoc_ind (by simp[qls]) (fun pre x ih=>?_)
 rw[qls_snoc];simp[ih]
theorem qls_range (p:Nat) (vs:List Nat) (a:Nat):∀ k,k<=vs.length->∀ i,(qls p vs a (List.range k)).getD i 0=if vs.length-k<=i/\i<vs.length then pv (vs.drop (i+1)) a%p else 0
 | 0,_,i=>by
  rw[if_neg (by omega)]
  simp[qls,List.getD_eq_getElem?_getD,List.getElem?_replicate]
  split <;> rfl
 | k+1,h,i=>by
  rw[List.range_succ,qls_snoc,getD_set _ _ _ _ (by rw[qls_length];omega),qls_range p vs a k (by omega),hor_range p vs a k (by omega)]
  by_cases e:i=vs.length-1-k
  ·rw[if_pos e,if_pos (by omega),e,show vs.length-1-k+1=vs.length-k by omega]
  rw[if_neg e]
  by_cases e2:vs.length-k<=i/\i<vs.length
  ·rw[if_pos e2,if_pos (by omega)]
  rw[if_neg e2,if_neg (by omega)]
def quoL (p:Nat) (vs:List Nat) (a:Nat):List Nat:=(List.range (vs.length-1)).map (fun i=>pv (vs.drop (i+1)) a%p)
theorem quoL_length (p:Nat) (vs:List Nat) (a:Nat):(quoL p vs a).length=vs.length-1:=by simp[quoL]
theorem qls_done (p:Nat) (vs:List Nat) (a:Nat):(qls p vs a (List.range vs.length)).take (vs.length-1)=quoL p vs a:=by
 apply ext_getD (by simp[quoL_length,qls_length])
 intro i hi
 rw[List.length_take,qls_length]at hi
 have h1:=qls_range p vs a vs.length (Nat.le_refl _) i
 rw[if_pos (by omega)]at h1
 rw[quoL,getD_range,if_pos (by omega),<-h1,List.getD_eq_getElem?_getD,List.getElem?_take_of_lt (by omega),<-List.getD_eq_getElem?_getD]

/-! Add and Scale: each entry by itself. -/
def sumL (p:Nat) (vs us:List Nat):List Nat:=(List.range (max vs.length us.length)).map (fun i=>(vs.getD i 0+us.getD i 0)%p)
theorem sumL_length (p:Nat) (vs us:List Nat):(sumL p vs us).length=max vs.length us.length:=by simp[sumL]
theorem sumL_lt {p:Nat} (h0:0<p) (vs us:List Nat):∀ v∈sumL p vs us,v<p:=by
 intro v hv;simp only[sumL,List.mem_map]at hv;obtain⟨i,_,rfl⟩:=hv;exact Nat.mod_lt _ h0
theorem pv_sum (p:Nat) (vs us:List Nat) (a:Nat):pv (sumL p vs us) a%p=(pv vs a+pv us a)%p:=by
 rw[sumL,pv_range,pv_sg vs a (Nat.le_max_left _ us.length),pv_sg us a (Nat.le_max_right vs.length _),<-sg_add]
 exact sg_congr _ (fun i _=>md_self _ _)
def scaL (p:Nat) (vs:List Nat) (a:Nat):List Nat:=vs.map (fun v=>v*a%p)
/-! Mul: for each index of the one,each index of the other. -/
def mulRow (p v:Nat) (us:List Nat) (i:Nat) (L:List Nat) (pre:List Nat):List Nat:=pre.foldl (fun L y=>L.set (i+y%us.length) ((L.getD (i+y%us.length) 0+v*us.getD (y%us.length) 0%p)%p)) L
theorem mulRow_snoc (p v:Nat) (us:List Nat) (i:Nat) (L pre:List Nat) (y:Nat):mulRow p v us i L (pre++[y])=(mulRow p v us i L pre).set (i+y%us.length) (((mulRow p v us i L pre).getD (i+y%us.length) 0+v*us.getD (y%us.length) 0%p)%p):=by unfold mulRow;rw[List.foldl_append];rfl
theorem mulRow_length (p v:Nat) (us:List Nat) (i:Nat) (L:List Nat):∀ pre,(mulRow p v us i L pre).length=L.length:=by
 refine snoc_ind rfl (fun pre x ih=>?_)
 rw[mulRow_snoc];simp[ih]
def mulAll (p:Nat) (vs us:List Nat) (pre:List Nat):List Nat:=pre.foldl (fun L x=>mulRow p (vs.getD (x%vs.length) 0) us (x%vs.length) L (List.range us.length)) (List.replicate (vs.length+us.length-1) 0)
theorem mulAll_snoc (p:Nat) (vs us pre:List Nat) (x:Nat):mulAll p vs us (pre++[x])=mulRow p (vs.getD (x%vs.length) 0) us (x%vs.length) (mulAll p vs us pre) (List.range us.length):=by unfold mulAll;rw[List.foldl_append];rfl
theorem mulAll_length (p:Nat) (vs us:List Nat):∀ pre,(mulAll p vs us pre).length=vs.length+us.length-1:=by
 refine snoc_ind (by simp[mulAll]) (fun pre x ih=>?_)
 rw[mulAll_snoc,mulRow_length,ih]
def mulL (p:Nat) (vs us:List Nat):List Nat:=if vs.length=0\/us.length=0 then [] else mulAll p vs us (List.range vs.length)
theorem mulRow_lt {p:Nat} (h0:0<p) (v:Nat) (us:List Nat) (i:Nat) (L:List Nat) (hL:∀ u∈L,u<p):∀ pre,∀ u∈mulRow p v us i L pre,u<p:=by
 refine snoc_ind hL (fun pre x ih u hu=>?_)
 rw[mulRow_snoc]at hu
 rcases List.mem_or_eq_of_mem_set hu with h | h
 ·exact ih u h
 rw[h];exact Nat.mod_lt _ h0
theorem mulAll_lt {p:Nat} (h0:0<p) (vs us:List Nat):∀ pre,∀ u∈mulAll p vs us pre,u<p:=by
 refine snoc_ind (fun u hu=>by simp[mulAll,List.mem_replicate]at hu;omega) (fun pre x ih u hu=>?_)
 rw[mulAll_snoc]at hu
 exact mulRow_lt h0 _ _ _ _ ih _ u hu
theorem mulL_lt {p:Nat} (h0:0<p) (vs us:List Nat):∀ u∈mulL p vs us,u<p:=by
 intro u hu
 unfold mulL at hu
 split at hu
 ·cases hu
 exact mulAll_lt h0 _ _ _ u hu
theorem pv_set (a v:Nat):∀ (L:List Nat) (j:Nat),j<L.length->pv (L.set j v) a+a^j*L.getD j 0=pv L a+a^j*v
 | [],j,h=>by simp at h
 | x::r,0,_=>by simp[pv];omega
 | x::r,j+1,h=>by
  have ih:=pv_set a v r j (by simpa using h)
  have e:(x::r).getD (j+1) 0=r.getD j 0:=rfl
  rw[e]
  simp only[List.set_cons_succ,pv,Nat.pow_succ]
  have h1:a^j*a*r.getD j 0=a*(a^j*r.getD j 0):=by rw[Nat.mul_comm (a^j) a,Nat.mul_assoc]
  have h2:a^j*a*v=a*(a^j*v):=by rw[Nat.mul_comm (a^j) a,Nat.mul_assoc]
  rw[h1,h2,Nat.add_assoc,<-Nat.mul_add,ih,Nat.mul_add,Nat.add_assoc]
theorem pv_bump {p:Nat} (a t:Nat) (L:List Nat) (j:Nat) (h:j<L.length):pv (L.set j ((L.getD j 0+t)%p)) a%p=(pv L a+a^j*t)%p:=by
 have h1:=pv_set a ((L.getD j 0+t)%p) L j h
 have h2:(pv (L.set j ((L.getD j 0+t)%p)) a+a^j*L.getD j 0)%p=(pv L a+a^j*t+a^j*L.getD j 0)%p:=by
  rw[h1,show pv L a+a^j*t+a^j*L.getD j 0=pv L a+a^j*(L.getD j 0+t) by rw[Nat.mul_add];omega]
  exact md_add rfl (md_mul rfl (md_self _ _))
 generalize pv (L.set j ((L.getD j 0+t)%p)) a=x at h2 ⊢
 generalize pv L a+a^j*t=y at h2 ⊢
 generalize a^j*L.getD j 0=z at h2
 by_cases hp:p=0
 ·subst hp;simpa using h2
 have hz:z+(p-z%p)=p*(z / p+1):=by
  have:=Nat.div_add_mod z p;have:=Nat.mod_lt z (Nat.pos_of_ne_zero hp);rw[Nat.mul_add,Nat.mul_one];omega
 have h3:=md_add (p:=p) h2 (rfl:(p-z%p)%p=(p-z%p)%p)
 rw[Nat.add_assoc,Nat.add_assoc,hz,Nat.add_mul_mod_self_left,Nat.add_mul_mod_self_left]at h3
 exact h3
theorem mulRow_pv (p v:Nat) (us:List Nat) (i a:Nat) (L:List Nat) (hL:i+us.length<=L.length):∀ k,k<=us.length->pv (mulRow p v us i L (List.range k)) a%p=(pv L a+a^i*(v*sg (fun j=>us.getD j 0) k a))%p
 | 0,_=>by simp[mulRow,sg]
 | k+1,h=>by
  rw[List.range_succ,mulRow_snoc,Nat.mod_eq_of_lt (a:=k) (b:=us.length) (by omega),pv_bump a _ _ _ (by rw[mulRow_length];omega)]
  have e:pv L a+a^i*(v*sg (fun j=>us.getD j 0) (k+1) a)=(pv L a+a^i*(v*sg (fun j=>us.getD j 0) k a))+a^(i+k)*(v*us.getD k 0):=by
   simp only[sg,Nat.mul_add,Nat.pow_add]
   rw[<-Nat.add_assoc];congr 1
   rw[Nat.mul_assoc (a^i),<-Nat.mul_assoc v,Nat.mul_comm (v*_) (a^k)]
  rw[e]
  exact md_add (mulRow_pv p v us i a L hL k (by omega)) (md_mul rfl (md_self _ _))
theorem mulAll_pv (p:Nat) (vs us:List Nat) (a:Nat) (h0:0<us.length):∀ k,k<=vs.length->pv (mulAll p vs us (List.range k)) a%p=sg (fun j=>vs.getD j 0) k a*pv us a%p
 | 0,_=>by
  have:∀ n,pv (List.replicate n 0) a=0:=fun n=>by
   induction n with
   | zero=>rfl
   | succ n ih=>rw[List.replicate_succ,pv,ih];simp
  simp[mulAll,sg,this]
 | k+1,h=>by
  rw[List.range_succ,mulAll_snoc,Nat.mod_eq_of_lt (a:=k) (b:=vs.length) (by omega),mulRow_pv p _ us k a _ (by rw[mulAll_length];omega) _ (Nat.le_refl _),<-pv_sg us a (Nat.le_refl _)]
  simp only[sg,Nat.add_mul]
  refine md_add (mulAll_pv p vs us a h0 k (by omega)) ?_
  rw[Nat.mul_comm (vs.getD k 0) (a^k),Nat.mul_assoc]
theorem pv_mul (p:Nat) (vs us:List Nat) (a:Nat):pv (mulL p vs us) a%p=pv vs a*pv us a%p:=by
 unfold mulL
 split
 ·next h =>
  rcases h with h | h
  ·rw[List.eq_nil_of_length_eq_zero h];simp[pv]
  rw[List.eq_nil_of_length_eq_zero h];simp[pv]
 next h=>rw[mulAll_pv p vs us a (by omega) _ (Nat.le_refl _),<-pv_sg vs a (Nat.le_refl _)]
theorem sg_step (f:Nat->Nat) (p a k:Nat):(sg f k a%p+f k*(a^k%p)%p)%p=sg f (k+1) a%p:=by
 simp only[sg]
 refine md_add (md_self _ _) ?_
 rw[md_self];exact md_mul rfl (md_self _ _)
theorem pow_step (p a k:Nat):a^k%p*a%p=a^(k+1)%p:=by rw[Nat.pow_succ];exact md_mul (md_self _ _) rfl
end
section
open Go.RowKit
theorem TapeG.keptC {w w':World} {b:Nat} {es:List Ev} {S:Nat->Prop} {nb:Nat} (h:TapeG w b es S nb) (hc:CellsKept w w'):TapeG w' b es S nb:=by
 obtain⟨sv,ebs,h1,h2,h3,h4,h5,h6,h7,h8⟩:=h
 refine⟨sv,ebs,hc _ _ _ _ h1,h2,?_,h4,h5,h6,?_,?_⟩
 ·refine⟨h3.1,?_⟩
  rcases h3.2 with hn | ⟨g,cap,cur,rfl,hb,hg,r⟩
  ·exact .inl hn
  exact .inr ⟨g,cap,cur,rfl,hb,hc _ _ _ _ hg,r⟩
 ·intro eb he
  obtain⟨hs,c,hb,hz⟩:=h7 eb he
  exact⟨hs,c,hc _ _ _ _ hb,hz⟩
 intro i e hi
 obtain⟨eb,he,hv⟩:=h8 i e hi
 obtain⟨_,c,hb,_⟩:=h7 eb (List.mem_of_getElem? he)
 exact⟨eb,he,ev_block ((hc _ _ _ _ hb).trans hb.symm) hv⟩
theorem noted_cells {B n:Nat} {q:Option Addr} {es ls:List Ev} {S T:Nat->Prop} {A C:World} (h:Noted B q es ls S A) (hq:Quiet n T A C) (hc:CellsKept A C):Noted B q es ls S C:=by
 obtain⟨S',⟨h1,h2⟩,h3⟩:=h
 refine⟨S',⟨?_,fun k c=>Nat.lt_of_lt_of_le (h2 k c) hq.size⟩,h3⟩
 rcases h1 with hn | ⟨b,hv,ht⟩
 ·exact .inl hn
 exact .inr ⟨b,hv,ht.keptC hc⟩
theorem noted_put {B l:Nat} {q:Option Addr} {es ls:List Ev} {S:Nat->Prop} {A:World} {d:Option (List Deferred)} {o':Obj} (h:Noted B q es ls S A) (hl:A.heap[l]?=some (.deferred d)):Noted B q es ls S (A.putObj l o') :=
 noted_cells (n:=0) (T:=fun _=>False) h (Quiet.putObj _ _ (Nat.zero_le _)) (fun k c t f hc=>(World.putObj_heap_other (fun e=>by subst e;rw[hl]at hc;cases hc)).trans hc)
end
end Go.Proofs.YtbkgghhngeibhaaGreatDoor
