/-
  Blocks that hold numbers of four words, one behind the other. Plain facts on worlds; no condition.
  More of what a region's invariant says: loads from a block that the region stores into, stores at an offset, a call that notes events; and tapes as values with the events that calls add. Conditions: the tape has fewer events than the bound that each says.
  Slices of elements in memory, and the iterators slices.All and slices.Backward over them, as loops take them. Conditions: the slice's elements are numbers of four words that lie in memory.
-/
import Derived.Test.YtbkgghhngeibhaaGreatDoorModGet
import Derived.Deep.DeepCutAuto
import Derived.Lib.LaidTab
import Derived.MakeChecks
import Derived.Test.YtbkgghhngeibhaaGreatDoorInvAll
import Derived.Test.YtbkgghhngeibhaaGreatDoorTapeCore
import Derived.Test.YtbkgghhngeibhaaGreatDoorPlainAll
import Derived.Deep.DrawnRows
import Derived.Deep.RegionHeld3
import Derived.Laws.AppendOwnNone
import Derived.ProofKit
import Derived.Shelf.Spec.BitsCarry
import Derived.StillTailTactics
namespace Go.Proofs.YtbkgghhngeibhaaGreatDoor
open Lib (hid)
section

def flat4:List Nat->List Value
 | []=>[]
 | x::r=>.int .u64 (wd x 0)::.int .u64 (wd x 1)::.int .u64 (wd x 2)::.int .u64 (wd x 3)::flat4 r
abbrev words4 (x:Nat):List Value:=[.int .u64 (wd x 0),.int .u64 (wd x 1),.int .u64 (wd x 2),.int .u64 (wd x 3)]
theorem flat4_cons (x:Nat) (r:List Nat):flat4 (x::r)=words4 x++flat4 r:=rfl
theorem flat4_append:∀ l m:List Nat,flat4 (l++m)=flat4 l++flat4 m
 | [],_=>rfl
 | x::r,m=>by simp only[List.cons_append,flat4,flat4_append r m]
theorem flat4_get:∀ (l:List Nat) (j x:Nat),l[j]?=some x->(flat4 l)[j*4]?=some (.int .u64 (wd x 0))/\(flat4 l)[j*4+1]?=some (.int .u64 (wd x 1))/\(flat4 l)[j*4+2]?=some (.int .u64 (wd x 2))/\(flat4 l)[j*4+3]?=some (.int .u64 (wd x 3))
 | [],j,x,h=>by simp at h
 | y::r,0,x,h=>by simp at h;subst h;exact⟨rfl,rfl,rfl,rfl⟩
 | y::r,j+1,x,h=>by
  have h':=flat4_get r j x (by simpa using h)
  have e:(j+1)*4=j*4+1+1+1+1:=by omega
  simp only[e,flat4,List.getElem?_cons_succ,Nat.add_assoc,Nat.reduceAdd]at h' ⊢
  exact h'
theorem flat4_zero (n:Nat):flat4 (List.replicate n 0)=List.replicate (n*4) (.int .u64 0):=by
 induction n with
 | zero=>rfl
 | succ n ih =>
  rw[List.replicate_succ,flat4,ih,show(n+1)*4=n*4+1+1+1+1 by omega]
  simp only[List.replicate_succ]
  have z:∀ i,wd 0 i=0:=fun i=>by unfold wd dg;simp
  simp only[z]
  rfl
theorem flat4_set (l:List Nat) (j v:Nat) (hj:j<l.length):∃ pre mid post:List Value,flat4 l=pre++mid++post/\pre.length=j*4/\mid.length=4/\flat4 (l.set j v)=pre++words4 v++post:=by
 induction l generalizing j with
 | nil=>simp at hj
 | cons y r ih =>
  cases j with
  | zero=>exact⟨[],words4 y,flat4 r,rfl,rfl,rfl,rfl⟩
  | succ j =>
   obtain⟨pre,mid,post,h1,h2,h3,h4⟩:=ih j (by simpa using hj)
   refine⟨words4 y++pre,mid,post,?_,?_,h3,?_⟩
   ·rw[flat4_cons,h1];simp
   ·simp[h2];omega
   rw[List.set_cons_succ,flat4_cons,h4];simp

def NumsAt (w:World) (b:Nat) (T:TypeId) (xs:List Nat):Prop:=w.heap[b]?=some (.cells (flat4 xs).toArray T (0,0))
theorem NumsAt.cell {w:World} {b:Nat} {T:TypeId} {xs:List Nat} (h:NumsAt w b T xs) {j x:Nat} (hj:xs[j]?=some x) :
  w.cell? ⟨b,j*4,none⟩=some (.int .u64 (wd x 0))/\w.cell? ⟨b,j*4+1,none⟩=some (.int .u64 (wd x 1))/\w.cell? ⟨b,j*4+2,none⟩=some (.int .u64 (wd x 2))/\w.cell? ⟨b,j*4+3,none⟩=some (.int .u64 (wd x 3)):=by
 obtain⟨h0,h1,h2,h3⟩:=flat4_get xs j x hj
 refine⟨?_,?_,?_,?_⟩ <;> rw[cell_of_heap h,List.getElem?_toArray] <;> assumption
theorem NumsAt.lt {w:World} {b:Nat} {T:TypeId} {xs:List Nat} (h:NumsAt w b T xs):b<w.heap.size:=heap_lt h
theorem NumsAt.off {w w':World} {b:Nat} {T:TypeId} {xs:List Nat} {S:Nat->Prop} (h:NumsAt w b T xs) (ho:Off S w w') (hb:¬S b):NumsAt w' b T xs:=ho.heap h hb
theorem NumsAt.frozen {w:World} {b:Nat} {T:TypeId} {xs:List Nat} (h:NumsAt w b T xs) (j:Nat):w.frozen? ⟨b,j,none⟩=false:=frozen_of_heap h j
theorem setCells_mid {b:Nat} {T:TypeId}:∀ (vs pre mid post:List Value) (w:World) (o:Nat),pre.length=o->mid.length=vs.length->w.heap[b]?=some (.cells (pre++mid++post).toArray T (0,0)) ->
  (w.setCells b o vs).heap[b]?=some (.cells (pre++vs++post).toArray T (0,0))
 | [],pre,mid,post,w,o,_,hm,h=>by
  have:mid=[]:=List.eq_nil_of_length_eq_zero hm
  subst this;exact h
 | v::vs,pre,[],post,w,o,_,hm,_=>by simp at hm
 | v::vs,pre,x::mid,post,w,o,ho,hm,h=>by
  have h1:=heap_set h o v
  have e:(pre++x::mid++post).toArray.setIfInBounds o v=((pre++[v])++mid++post).toArray:=by
   subst ho
   apply Array.ext'
   simp
  rw[e]at h1
  have:=setCells_mid vs (pre++[v]) mid post _ (o+1) (by simp[ho]) (by simpa using hm) h1
  have e2:(pre++[v])++vs++post=pre++v::vs++post:=by simp
  rw[e2]at this
  exact this
theorem NumsAt.store {w:World} {b:Nat} {T:TypeId} {xs:List Nat} (h:NumsAt w b T xs) {j:Nat} (hj:j<xs.length) (v:Nat):NumsAt (w.setCells b (j*4) (words4 v)) b T (xs.set j v):=by
 obtain⟨pre,mid,post,h1,h2,h3,h4⟩:=flat4_set xs j v hj
 unfold NumsAt at h ⊢
 rw[h1]at h
 rw[h4]
 exact setCells_mid (words4 v) pre mid post w (j*4) h2 (by rw[h3];rfl) h
theorem setCells_far_at {b c o:Nat} {w:World} {vs:List Value} {x:Obj} (hne:c≠b) (h:w.heap[c]?=some x):(w.setCells b o vs).heap[c]?=some x:=(setCells_off b vs o w).heap h hne
theorem setCells_in_at {S:Nat->Prop} {a u:World} {b o:Nat} (h:Off S a u) (hb:b<a.heap.size->S b) (vs:List Value):Off S a (u.setCells b o vs) :=
 h.trans (setCells_off b vs o u) (fun _ hk e=>by subst e;exact hb hk)
end
section
open Go.RowKit

def Dep (l:Nat->Bool) (i s:Nat):Prop:=l i=false->l s=false
theorem Dep.start (i s:Nat):Dep (fun _=>false) i s:=fun _=>rfl
theorem Dep.keep {l:Nat->Bool} {i s k:Nat} (h:Dep l i s) (hk:(k==s)=false):Dep (upd l k) i s:=fun h2=>by
 rw[upd_k l hk]
 by_cases e:i=k
 ·subst e;rw[upd_same]at h2;cases h2
 rw[upd_ne l e]at h2;exact h h2
theorem Dep.at {l:Nat->Bool} {i s:Nat} (h:l i=true):Dep (upd l s) i s:=fun h2=>by
 unfold upd at h2
 split at h2
 ·cases h2
 rw[h]at h2;cases h2
theorem Old.keepS {l:Nat->Bool} {s:Nat} {b:Nat} {W0 w w':World} {Z X:Obj} {S:Nat->Prop} (h:Old l s b W0 w Z X) (ho:Off S w w') (hb:¬S b) {k:Nat} (hk2:(k==s)=false):Old (upd l k) s b W0 w' Z X:=by
 have e2:=upd_k l hk2
 refine⟨h.lt,?_,?_⟩ <;> rw[e2]
 ·exact fun c=>ho.heap (h.was c) hb
 exact fun c=>ho.heap (h.now c) hb
theorem Old.putAt {l:Nat->Bool} {s:Nat} {b o:Nat} {W0 w:World} {Z X:Obj} {vs:List Value} (h:Old l s b W0 w Z X) (hX:w.heap[b]?=some Z->(w.setCells b o vs).heap[b]?=some X) (hl:l s=false) :
  Old (upd l s) s b W0 (w.setCells b o vs) Z X :=
 ⟨h.lt,fun h2=>(by rw[upd_same]at h2;cases h2),fun _=>hX (h.was hl)⟩
def Tp (w:World) (q:Option Addr) (es:List Ev) (S:Nat->Prop):Prop:=TapeV w (.pointer q) es S/\∀ k,S k->k<w.heap.size
def ext (q:Option Addr) (es ls:List Ev):List Ev:=if q=none then es else es++ls
theorem ext_nil (q:Option Addr) (es:List Ev):ext q es []=es:=by unfold ext;split <;> simp
theorem ext_ext (q:Option Addr) (es ls ms:List Ev):ext q (ext q es ls) ms=ext q es (ls++ms):=by unfold ext;split <;> simp
theorem ext_le (q:Option Addr) (es ls:List Ev):(ext q es ls).length<=es.length+ls.length:=by unfold ext;split <;> simp
def Noted (B:Nat) (q:Option Addr) (es ls:List Ev) (S:Nat->Prop) (w':World):Prop:=∃ S',Tp w' q (ext q es ls) S'/\∀ k,S' k->S k\/B<=k
theorem Tp.off {w w':World} {q:Option Addr} {es:List Ev} {S S2:Nat->Prop} (h:Tp w q es S) (ho:Off S2 w w') (hd:∀ k,S2 k->¬S k):Tp w' q es S :=
 ⟨h.1.off ho (fun k _ hs c=>hd k c hs),fun k hk=>Nat.lt_of_lt_of_le (h.2 k hk) ho.size⟩
theorem Tp.off0 {w w':World} {q:Option Addr} {es:List Ev} {S:Nat->Prop} (h:Tp w q es S) (ho:Off (fun _=>False) w w'):Tp w' q es S:=h.off ho (fun _ c=>c.elim)
theorem Tp.drew {w:World} {q:Option Addr} {es:List Ev} {S:Nat->Prop} (h:Tp w q es S):Tp w.drew q es S:=h.off0 (Off.refl _ w).drew
theorem Tp.noted {w:World} {q:Option Addr} {es:List Ev} {S:Nat->Prop} (h:Tp w q es S) (B:Nat):Noted B q es [] S w:=⟨S,by rw[ext_nil];exact h,fun _ c=>.inl c⟩
theorem Noted.off {B:Nat} {w w':World} {q:Option Addr} {es ls:List Ev} {S S2:Nat->Prop} (h:Noted B q es ls S w) (ho:Off S2 w w') (hd:∀ k,S2 k->¬S k/\k<B):Noted B q es ls S w':=by
 obtain⟨S',h1,h2⟩:=h
 exact⟨S',h1.off ho (fun k hk c=>(h2 k c).elim (hd k hk).1 (fun hb=>by have:=(hd k hk).2;omega)),h2⟩
theorem Tp.none (w:World):Tp w none [] (fun _=>False):=⟨.inl ⟨rfl,rfl⟩,fun _ c=>c.elim⟩

theorem note_ext (q:Option Addr) (es:List Ev) (S:Nat->Prop) (w:World) (h:Tp w q es S) (hl:es.length<100000) (e:Ev) :
  Calls Tryz.prog 44 #[.pointer q,.int .i64 e.1,.int .i64 e.2.1,.int .i64 e.2.2] w fun r w'=>r=.returned (.tuple #[])/\Noted w.heap.size q es [e] S w'/\Off S w w':=by
 obtain⟨ht,hs⟩:=h
 rcases ht with ⟨hq,rfl⟩ | ⟨b,hq,ht⟩
 ·obtain rfl:q=none:=by simpa using hq
  refine(note_nil e.1 e.2.1 e.2.2 w).mono ?_
  rintro r w' ⟨rfl,rfl⟩
  exact⟨rfl,⟨S,⟨.inl ⟨rfl,by simp[ext]⟩,hs⟩,fun _ c=>.inl c⟩,Off.refl _ _⟩
 obtain rfl:q=some ⟨b,0,none⟩:=by simpa using hq
 refine(note_any b es S w ht hl e).mono ?_
 rintro r w' ⟨rfl,h1,h2⟩
 refine⟨rfl,⟨fun k=>(S k\/w.heap.size<=k)/\k<w'.heap.size,⟨.inr ⟨b,rfl,?_⟩,fun k c=>c.2⟩,fun k c=>c.1⟩,h2⟩
 have e1:ext (some ⟨b,0,none⟩) es [e]=es++[e]:=by simp[ext]
 rw[e1]
 exact TapeG.mono h1 (fun k hk c=>⟨c,hk⟩)

structure TpI (l:Nat->Bool) (i:Nat) (W0 w:World) (q:Option Addr) (es ls:List Ev) (S:Nat->Prop):Prop where
 was:l i=false->Tp w q es S
 now:l i=true->Noted W0.heap.size q es ls S w
theorem TpI.start {W0:World} {q:Option Addr} {es:List Ev} {S:Nat->Prop} (h:Tp W0 q es S) (i:Nat) (W1:World) (ls:List Ev):TpI (fun _=>false) i W1 W0.drew q es ls S:=⟨fun _=>h.drew,fun c=>by cases c⟩
theorem TpI.keep {l:Nat->Bool} {i:Nat} {W0 w w':World} {q:Option Addr} {es ls:List Ev} {S:Nat->Prop} (h:TpI l i W0 w q es ls S) (ho:Off (fun _=>False) w w') {k:Nat} (hk:(k==i)=false):TpI (upd l k) i W0 w' q es ls S:=by
 refine⟨?_,?_⟩ <;> rw[upd_k l hk]
 ·exact fun c=>(h.was c).off0 ho
 exact fun c=>(h.now c).off ho (fun _ c=>c.elim)
theorem TpI.same {l:Nat->Bool} {i:Nat} {W0 w:World} {q:Option Addr} {es ls:List Ev} {S:Nat->Prop} (h:TpI l i W0 w q es ls S) {k:Nat} (hk:(k==i)=false):TpI (upd l k) i W0 w q es ls S:=h.keep (Off.refl _ w) hk
theorem TpI.put {l:Nat->Bool} {i:Nat} {W0 w:World} {q:Option Addr} {es ls:List Ev} {S:Nat->Prop} (h:TpI l i W0 w q es ls S) {k:Nat} (hk:(k==i)=false) {b o:Nat} {vs:List Value} (hb:¬S b) (hlt:b<W0.heap.size):TpI (upd l k) i W0 (w.setCells b o vs) q es ls S:=by
 have ho:=setCells_off b vs o w
 refine⟨?_,?_⟩ <;> rw[upd_k l hk]
 ·exact fun c=>(h.was c).off ho (fun k e hs=>by subst e;exact hb hs)
 exact fun c=>(h.now c).off ho (fun k e=>by subst e;exact⟨hb,hlt⟩)
theorem TpI.note {l:Nat->Bool} {i B:Nat} {W0 w:World} {q:Option Addr} {es ls:List Ev} {S:Nat->Prop} (h:Noted B q es ls S w) (hB:W0.heap.size<=B):TpI (upd l i) i W0 w q es ls S:=by
 refine⟨fun c=>(by rw[upd_same]at c;cases c),fun _=>?_⟩
 obtain⟨S',h1,h2⟩:=h
 exact⟨S',h1,fun k c=>(h2 k c).imp id (fun d=>Nat.le_trans hB d)⟩
end
section
open Go.RowKit
attribute [local go_sem] Oper.semAt_some wide_fn

def elAt (w:World) (b o x:Nat):Prop :=
 w.cell? ⟨b,o,none⟩=some (.int .u64 (wd x 0))/\w.cell? ⟨b,o+1,none⟩=some (.int .u64 (wd x 1))/\w.cell? ⟨b,o+2,none⟩=some (.int .u64 (wd x 2))/\w.cell? ⟨b,o+3,none⟩=some (.int .u64 (wd x 3))
theorem elAt.off {S:Nat->Prop} {w w':World} {b o x:Nat} (h:elAt w b o x) (ho:Off S w w') (hs:¬S b):elAt w' b o x :=
 ⟨ho.cell h.1 hs,ho.cell h.2.1 hs,ho.cell h.2.2.1 hs,ho.cell h.2.2.2 hs⟩
def LsAt (w:World) (v:Value) (xs:List Nat) (S:Nat->Prop):Prop :=
 ∃ a cap,v=.slice a xs.length cap/\xs.length<=100000/\(0<xs.length->∃ b off,a=some ⟨b,off,none⟩/\S b/\∀ j x,xs[j]?=some x->elAt w b (off+j*4) x)
theorem LsAt.off {w w':World} {v:Value} {xs:List Nat} {S S':Nat->Prop} (h:LsAt w v xs S) (ho:Off S' w w') (hd:∀ k,k<w.heap.size->S k->¬S' k):LsAt w' v xs S:=by
 obtain⟨a,cap,hv,h1,h4⟩:=h
 refine⟨a,cap,hv,h1,fun hp=>?_⟩
 obtain⟨b,off,ha,hS,hc⟩:=h4 hp
 refine⟨b,off,ha,hS,fun j e hj=>?_⟩
 have he:=hc j e hj
 exact he.off ho (hd b (World.block_lt_of_cell? w _ he.1) hS)
theorem LsAt.mono {w:World} {v:Value} {xs:List Nat} {S S':Nat->Prop} (h:LsAt w v xs S) (hs:∀ k,k<w.heap.size->S k->S' k):LsAt w v xs S':=by
 obtain⟨a,cap,hv,h1,h4⟩:=h
 refine⟨a,cap,hv,h1,fun hp=>?_⟩
 obtain⟨b,off,ha,hS,hc⟩:=h4 hp
 refine⟨b,off,ha,hs b ?_ hS,hc⟩
 obtain⟨e,he⟩:∃ e,xs[0]?=some e:=⟨xs[0],List.getElem?_eq_getElem hp⟩
 exact World.block_lt_of_cell? w _ (hc 0 e he).1
theorem LsAt.kept {w w':World} {row:Option Nat} {v:Value} {xs:List Nat} {S:Nat->Prop} (h:LsAt w v xs S) (hg:w.grownBy w' row) (hr:∀ r,row=some r->∃ o:Obj,w.heap[r]?=some o/\o.isCells=false):LsAt w' v xs S:=by
 obtain⟨a,cap,hv,h1,h4⟩:=h
 refine⟨a,cap,hv,h1,fun hp=>?_⟩
 obtain⟨b,off,ha,hS,hc⟩:=h4 hp
 refine⟨b,off,ha,hS,fun j e hj=>?_⟩
 have he:=hc j e hj
 exact⟨cell_kept he.1 hg hr,cell_kept he.2.1 hg hr,cell_kept he.2.2.1 hg hr,cell_kept he.2.2.2 hg hr⟩
def Rl (Bs:Nat) (v:Value) (xs:List Nat) (S:Nat->Prop) (W:World):Prop:=Boxed W Bs 43 v/\LsAt W v xs S
theorem Rl.kept {w w':World} {row:Option Nat} {Bs:Nat} {v:Value} {xs:List Nat} {S:Nat->Prop} (h:Rl Bs v xs S w) (hg:w.grownBy w' row) (hr:∀ r,row=some r->∃ o:Obj,w.heap[r]?=some o/\o.isCells=false):Rl Bs v xs S w' :=
 ⟨Boxed.kept_own h.1 hg hr,h.2.kept hg hr⟩
theorem Rl.off {w w':World} {Bs:Nat} {v:Value} {xs:List Nat} {S S':Nat->Prop} (h:Rl Bs v xs S w) (ho:Off S' w w') (hb:¬S' Bs) (hd:∀ k,k<w.heap.size->S k->¬S' k):Rl Bs v xs S w' :=
 ⟨ho.heap h.1 hb,h.2.off ho hd⟩
theorem rlK_b {Bs:Nat} {v:Value} {xs:List Nat} {S:Nat->Prop} {n:Nat} (W:World) (l:Nat) (o o':Obj) (_:n<=l) (h:W.heap[l]?=some o) (hc:o.isCells=false) (_:o.isWalk=false):Rl Bs v xs S W->Rl Bs v xs S (W.putObj l o') :=
 fun hr=>hr.kept (grownBy_putObj' W l o') (fun r e=>by cases e;exact⟨o,h,hc⟩)
theorem LsAt.get {w:World} {a:Option Addr} {n cap:Nat} {xs:List Nat} {S:Nat->Prop} (h:LsAt w (.slice a n cap) xs S) {j x:Nat} (hx:xs[j]?=some x):∃ b off,a=some ⟨b,off,none⟩/\S b/\elAt w b (off+j*4) x:=by
 obtain⟨a',cap',e,_,h4⟩:=h
 simp at e
 obtain⟨rfl,rfl,rfl⟩:=e
 obtain⟨b,off,ha,hS,hc⟩:=h4 (by have:=(List.getElem?_eq_some_iff.1 hx).1;omega)
 exact⟨b,off,ha,hS,hc j x hx⟩
theorem LsAt.len {w:World} {a:Option Addr} {n cap:Nat} {xs:List Nat} {S:Nat->Prop} (h:LsAt w (.slice a n cap) xs S):n=xs.length/\n<=100000:=by
 obtain⟨a',cap',e,h1,_⟩:=h
 simp at e
 omega

set_option maxRecDepth 100000 in
set_option maxHeartbeats 2000000 in
theorem eall1_in (n:Nat) (hn:1<=n) (l Bs:Nat) (a:Option Addr) (m cap:Nat) (xs:List Nat) (S:Nat->Prop) (J Jx:List Nat->World->Prop) (W:World)
  (hJ:∀ s A B,J s A->A.grownBy B none->J s B)
  (hY:∀ (pre:List Nat) (x:Nat) W,J pre W->pre.length<xs.length->YieldAt Fence.wide (n-1) Tryz.prog l #[.int .i64 (((x%xs.length:Nat):Int)),V (xs.getD (x%xs.length) 0)] W fun e W' =>
   (e=.returned (.bool true)/\J (pre++[x]) W'/\(Rl Bs (.slice a m cap) xs S W->Rl Bs (.slice a m cap) xs S W'))\/(e=.returned (.bool false)/\Jx (pre++[x]) W'))
  (hR:Rl Bs (.slice a m cap) xs S W) (h0:J [] W) :
  CallsIn Fence.wide n Tryz.prog 147 #[.func (.yield l) #[] #[],.pointer (some ⟨Bs,0,none⟩)] W fun e W'=>(∃ v,e=.returned v) /\
   ((∃ ys,ys=List.range xs.length/\J ys W')\/(∃ pre,(∃ k,k<=xs.length/\pre=List.range k)/\Jx pre W')):=by
 refine callsIn_of_wp Tryz.func147 rfl trivial ?_ rfl
 simp only[Tryz.ntmps147,List.size_toArray,List.length_cons,List.length_nil,Nat.reduceAdd,Nat.reduceSub,Array.replicate_succ,Array.replicate_zero,List.push_toArray,List.append_toArray,List.nil_append,List.cons_append]
 obtain⟨hm,hm2⟩:=hR.2.len
 have HR:=hid hR
 have hB:=hR.1.cell
 have HY:=hid hY
 rw[<-hm]at HY ⊢
 have HM:=hid hm
 clear hR hY hm
 gi_wp2
 gi_loopw [7] (fun i wr=>∃ k:Nat,k<=m/\i=.int .i64 k/\J (List.range k) wr/\Rl Bs (.slice a m cap) xs S wr) (fun i _=>m-(intOf i).toNat)
 case atStart=>exact⟨0,Nat.zero_le _,rfl,h0,HR.out⟩
 case round =>
  obtain⟨k,hk,rfl,hJs,hRk⟩:=hrel
  by_cases hlt:k<m
  ·obtain⟨x,hx⟩:∃ x,xs[k]?=some x:=⟨_,List.getElem?_eq_getElem (by have:=HM.out;omega)⟩
   have hkm:k%m=k:=Nat.mod_eq_of_lt hlt
   have hgd:xs.getD (k%m) 0=x:=by rw[hkm,List.getD_eq_getElem?_getD,hx];rfl
   obtain⟨b,off,rfl,hSb,c0,c1,c2,c3⟩:=hRk.2.get hx
   have hbl:=World.block_lt_of_cell? wr _ c0
   have hO:Off (fun _=>False) wr (wr.alloc (.cells #[.int .u64 (wd x 0),.int .u64 (wd x 1),.int .u64 (wd x 2),.int .u64 (wd x 3)] 66)):=(Off.refl _ wr).alloc _
   obtain⟨fn,tmps,assign,body,hy,hround⟩:=HY.out _ k _ (hJ _ _ _ hJs hO.to_grown) (by rw[List.length_range];exact hlt)
   rw[hgd,hkm]at hy
   have HRk:=hid (hRk.off hO (fun c=>c) (fun _ _ _ c=>c))
   clear hRk hJs hgd hx hO hkm
   gi_wp2
   refine hround.mono ?_
   rintro e W3 (⟨rfl,hJ3,hk3⟩ | ⟨rfl,hJx3⟩)
   ·have hR3:=hk3 HRk.out
    clear hround hk3 hy c0 c1 c2 c3
    gi_wp2
    go_roundw
    case rel=>exact⟨k+1,by omega,by simp,by rw[List.range_succ];exact hJ3,hR3⟩
    case measure=>simp[intOf];omega
   clear hround hy c0 c1 c2 c3
   gi_wp2
   refine bodyPost_ret (results_none rfl _ _ _) rfl ?_
   exact⟨⟨_,rfl⟩,.inr ⟨_,⟨k+1,by omega,List.range_succ.symm⟩,hJx3⟩⟩
  obtain rfl:k=m:=by omega
  gi_wp2
  go_end0
  exact⟨⟨_,rfl⟩,.inl ⟨_,rfl,hJs⟩⟩
set_option maxHeartbeats 1000000 in
theorem eall_in (n:Nat) (a:Option Addr) (len cap:Nat) (w:World) :
  CallsIn Fence.wide n Tryz.prog 131 #[.slice a len cap] w fun e w'=>e=.returned (.func (.func 147) #[] #[.pointer (some ⟨w.heap.size,0,none⟩)])/\w'=w.alloc (.cells #[.slice a len cap] 43):=by
 refine callsIn_of_wp Tryz.func131 rfl trivial ?_ rfl
 simp only[Tryz.ntmps131,List.size_toArray,List.length_cons,List.length_nil,Nat.reduceAdd,Nat.reduceSub,Array.replicate_succ,Array.replicate_zero,List.push_toArray,List.append_toArray,List.nil_append,List.cons_append]
 gi_wp2
 go_ret
 exact⟨rfl,rfl⟩
theorem eall_stops (n:Nat) (hn:1<=n) (Bs:Nat) (a:Option Addr) (m cap:Nat) (xs:List Nat) (S:Nat->Prop) (w:World) (hR:Rl Bs (.slice a m cap) xs S w) :
  SeqStopsK Fence.wide n Tryz.prog 147 #[.pointer (some ⟨Bs,0,none⟩)] (fun x:Nat=>#[.int .i64 (((x%xs.length:Nat):Int)),V (xs.getD (x%xs.length) 0)]) (fun A B=>Rl Bs (.slice a m cap) xs S A->Rl Bs (.slice a m cap) xs S B)
   (fun ys=>ys=List.range xs.length) (fun pre=>∃ k,k<=xs.length/\pre=List.range k) xs.length w:=fun l J Jx W hW hJ _ hY h0=>by
 have hg:=below_grown hW
 exact eall1_in n hn l Bs a m cap xs S J Jx W (fun x A B hx hg=>hJ x A B none hx hg (fun r e=>by cases e)) (fun pre x W1 hj hlen=>hY pre x W1 hj hlen) (hR.kept hg (fun r e=>by cases e)) h0

set_option maxRecDepth 100000 in
set_option maxHeartbeats 2000000 in
theorem eback1_in (n:Nat) (hn:1<=n) (l Bs:Nat) (a:Option Addr) (m cap:Nat) (xs:List Nat) (S:Nat->Prop) (J Jx:List Nat->World->Prop) (W:World)
  (hJ:∀ s A B,J s A->A.grownBy B none->J s B)
  (hY:∀ (pre:List Nat) (x:Nat) W,J pre W->pre.length<xs.length->YieldAt Fence.wide (n-1) Tryz.prog l #[.int .i64 (((xs.length-1-x:Nat):Int)),V (xs.getD (xs.length-1-x) 0)] W fun e W' =>
   (e=.returned (.bool true)/\J (pre++[x]) W'/\(Rl Bs (.slice a m cap) xs S W->Rl Bs (.slice a m cap) xs S W'))\/(e=.returned (.bool false)/\Jx (pre++[x]) W'))
  (hR:Rl Bs (.slice a m cap) xs S W) (h0:J [] W) :
  CallsIn Fence.wide n Tryz.prog 134 #[.func (.yield l) #[] #[],.pointer (some ⟨Bs,0,none⟩)] W fun e W'=>(∃ v,e=.returned v) /\
   ((∃ ys,ys=List.range xs.length/\J ys W')\/(∃ pre,(∃ k,k<=xs.length/\pre=List.range k)/\Jx pre W')):=by
 refine callsIn_of_wp Tryz.func134 rfl trivial ?_ rfl
 simp only[Tryz.ntmps134,List.size_toArray,List.length_cons,List.length_nil,Nat.reduceAdd,Nat.reduceSub,Array.replicate_succ,Array.replicate_zero,List.push_toArray,List.append_toArray,List.nil_append,List.cons_append]
 obtain⟨hm,hm2⟩:=hR.2.len
 have HR:=hid hR
 have hB:=hR.1.cell
 have HY:=hid hY
 rw[<-hm]at HY ⊢
 have HM:=hid hm
 clear hR hY hm
 have hmw:IntKind.i64.wrap ((m:Int)-1)=(m:Int)-1:=by rw[IntKind.wrap_i64];omega
 gi_wp2
 gi_loopw [3] (fun i wr=>∃ k:Nat,k<=m/\i=.int .i64 ((m:Int)-1-(k:Int))/\J (List.range k) wr/\Rl Bs (.slice a m cap) xs S wr) (fun i _=>(intOf i+1).toNat)
 case atStart=>exact⟨0,Nat.zero_le _,by simp,h0,HR.out⟩
 case round =>
  obtain⟨k,hk,rfl,hJs,hRk⟩:=hrel
  by_cases hlt:k<m
  ·obtain⟨j,hj⟩:∃ j,j=m-1-k:=⟨_,rfl⟩
   have hij:(m:Int)-1-(k:Int)=(j:Int):=by omega
   obtain⟨x,hx⟩:∃ x,xs[j]?=some x:=⟨_,List.getElem?_eq_getElem (by have:=HM.out;omega)⟩
   have hgd:xs.getD (m-1-k) 0=x:=by rw[<-hj,List.getD_eq_getElem?_getD,hx];rfl
   obtain⟨b,off,rfl,hSb,c0,c1,c2,c3⟩:=hRk.2.get hx
   have hbl:=World.block_lt_of_cell? wr _ c0
   have hO:Off (fun _=>False) wr wr:=Off.refl _ wr
   obtain⟨fn,tmps,assign,body,hy,hround⟩:=HY.out _ k _ (hJ _ _ _ hJs hO.to_grown) (by rw[List.length_range];exact hlt)
   rw[hgd,<-hj]at hy
   rw[hij]
   have hB2:=hRk.1.cell
   have hjm:j<m:=by omega
   have hj0:decide ((0:Int)<=(j:Int))=true:=by simp
   have HRk:=hid hRk
   have HIJ:=hid hij
   clear hRk hJs hgd hx hO hj hij
   gi_wp2
   refine hround.mono ?_
   rintro e W3 (⟨rfl,hJ3,hk3⟩ | ⟨rfl,hJx3⟩)
   ·have hR3:=hk3 HRk.out
    have hjw:IntKind.i64.wrap ((j:Int)-1)=(j:Int)-1:=by rw[IntKind.wrap_i64];omega
    clear hround hk3 hy c0 c1 c2 c3 hB2
    gi_wp2
    go_roundw
    case rel=>exact⟨k+1,by omega,by have:=HIJ.out;congr 1;omega,by rw[List.range_succ];exact hJ3,hR3⟩
    case measure=>simp[intOf] <;> omega
   clear hround hy c0 c1 c2 c3
   gi_wp2
   refine bodyPost_ret (results_none rfl _ _ _) rfl ?_
   exact⟨⟨_,rfl⟩,.inr ⟨_,⟨k+1,by omega,List.range_succ.symm⟩,hJx3⟩⟩
  obtain rfl:k=m:=by omega
  have hj1:decide ((0:Int)<=(k:Int)-1-(k:Int))=false:=by simp;omega
  gi_wp2
  go_end0
  exact⟨⟨_,rfl⟩,.inl ⟨_,rfl,hJs⟩⟩
set_option maxHeartbeats 1000000 in
theorem eback_in (n:Nat) (a:Option Addr) (len cap:Nat) (w:World) :
  CallsIn Fence.wide n Tryz.prog 119 #[.slice a len cap] w fun e w'=>e=.returned (.func (.func 134) #[] #[.pointer (some ⟨w.heap.size,0,none⟩)])/\w'=w.alloc (.cells #[.slice a len cap] 43):=by
 refine callsIn_of_wp Tryz.func119 rfl trivial ?_ rfl
 simp only[Tryz.ntmps119,List.size_toArray,List.length_cons,List.length_nil,Nat.reduceAdd,Nat.reduceSub,Array.replicate_succ,Array.replicate_zero,List.push_toArray,List.append_toArray,List.nil_append,List.cons_append]
 gi_wp2
 go_ret
 exact⟨rfl,rfl⟩
theorem eback_stops (n:Nat) (hn:1<=n) (Bs:Nat) (a:Option Addr) (m cap:Nat) (xs:List Nat) (S:Nat->Prop) (w:World) (hR:Rl Bs (.slice a m cap) xs S w) :
  SeqStopsK Fence.wide n Tryz.prog 134 #[.pointer (some ⟨Bs,0,none⟩)] (fun x:Nat=>#[.int .i64 (((xs.length-1-x:Nat):Int)),V (xs.getD (xs.length-1-x) 0)]) (fun A B=>Rl Bs (.slice a m cap) xs S A->Rl Bs (.slice a m cap) xs S B)
   (fun ys=>ys=List.range xs.length) (fun pre=>∃ k,k<=xs.length/\pre=List.range k) xs.length w:=fun l J Jx W hW hJ _ hY h0=>by
 have hg:=below_grown hW
 exact eback1_in n hn l Bs a m cap xs S J Jx W (fun x A B hx hg=>hJ x A B none hx hg (fun r e=>by cases e)) (fun pre x W1 hj hlen=>hY pre x W1 hj hlen) (hR.kept hg (fun r e=>by cases e)) h0
end
end Go.Proofs.YtbkgghhngeibhaaGreatDoor
