/-
  Shares in memory, and arguments of statements opened: parameters, a share, a list of shares. No condition.
  Parameters and shares in plain terms: the errors of Check, CheckShare and CheckShares, the number of random bytes. Plain facts.
  Lists of shares in plain terms: the errors of CheckShares, columns. Plain facts.
  The reference of layer 15 over this seat's translation: known, Check, Random, CheckShare. Conditions: the numbers are ints.
  The reference of layer 15 over this seat's translation: CheckShares, Column, for lists of shares. Conditions: the shares lie in memory, their numbers are ints.
  Rows of shares of the call's own: shares put behind, slices.Grow, slices.Concat and slices.Reverse of shares. Condition: the lists are short.
-/
import Derived.Test.YtbkgghhngeibhaaGreatDoorPolCore
import Derived.Test.YtbkgghhngeibhaaGreatDoorVecOpen
import Derived.Test.YtbkgghhngeibhaaGreatDoorChkGrp
import Derived.Test.YtbkgghhngeibhaaGreatDoorPolLists
import Derived.Lib.AppendZeros
namespace Go.Proofs.YtbkgghhngeibhaaGreatDoor
section
open Go.RowKit Go.ChangeShapes Go.WideShapes Go.ChangeAt Go.Deep
set_option linter.unusedSimpArgs false
theorem cells_i1:Tryz.prog.cellsOf 3=1:=by kernel_rfl
theorem slice_of_trod' {H:Type} {enc:TypeId × Value->H} {P:Program} {w:World} {base:Nat} {spare:Nat->Bool} {held:Bool} {t e:TypeId} {fuel:Nat} {c:Value} {x:DataW H × List MemPlace} (ht:P.underlying t=some (.slice e))
  (h:DataW.trod enc P w base spare held fuel t [c]=some x):∃ a n cap,c=.slice a n cap:=by
 rcases open_slice ht h with ⟨hcs,_⟩ | ⟨b,l,k,m,n,D,Pl,hcs,_⟩
 ·simp at hcs;exact⟨_,_,_,hcs⟩
 simp at hcs;exact⟨_,_,_,hcs⟩
structure Sh where
 fd:Int
 th:Int
 ix:Int
 ln:Int
 pl:List Nat
def I64 (x:Int):Prop:=(Lit.int .i64 x).wf=true
def Sh.ok (s:Sh):Prop:=I64 s.fd/\I64 s.th/\I64 s.ix/\I64 s.ln/\∀ x∈s.pl,x<R256
def Sh.val (s:Sh) (pv:Value):Value:=.agg #[.int .i64 s.fd,.int .i64 s.th,.int .i64 s.ix,.int .i64 s.ln,pv]
def ShAt (w:World) (b o:Nat) (s:Sh) (S:Nat->Prop):Prop :=
 w.cell? ⟨b,o,none⟩=some (.int .i64 s.fd)/\w.cell? ⟨b,o+1,none⟩=some (.int .i64 s.th)/\w.cell? ⟨b,o+2,none⟩=some (.int .i64 s.ix)/\w.cell? ⟨b,o+3,none⟩=some (.int .i64 s.ln) /\
  ∃ pa pc,w.cell? ⟨b,o+4,none⟩=some (.slice pa s.pl.length pc)/\s.pl.length<=pc/\VsAt w (.slice pa s.pl.length pc) s.pl S
theorem ShAt.off {w w':World} {b o:Nat} {s:Sh} {S S':Nat->Prop} (h:ShAt w b o s S) (ho:Off S' w w') (hb:¬S' b) (hd:∀ k,k<w.heap.size->S k->¬S' k):ShAt w' b o s S:=by
 obtain⟨h0,h1,h2,h3,pa,pc,h4,h5,h6⟩:=h
 exact⟨ho.cell h0 hb,ho.cell h1 hb,ho.cell h2 hb,ho.cell h3 hb,pa,pc,ho.cell h4 hb,h5,h6.off ho hd⟩
def ShsAt (w:World) (v:Value) (l:List Sh) (S:Nat->Prop):Prop :=
 ∃ a cap,v=.slice a l.length cap/\l.length<=cap/\l.length<=maxLen/\(∀ s∈l,s.ok)/\(0<l.length->∃ b off,a=some ⟨b,off,none⟩/\S b/\∀ j s,l[j]?=some s->ShAt w b (off+j*5) s S)
theorem ShsAt.off {w w':World} {v:Value} {l:List Sh} {S S':Nat->Prop} (h:ShsAt w v l S) (ho:Off S' w w') (hd:∀ k,k<w.heap.size->S k->¬S' k):ShsAt w' v l S:=by
 obtain⟨a,cap,hv,hc,h1,h2,h4⟩:=h
 refine⟨a,cap,hv,hc,h1,h2,fun hp=>?_⟩
 obtain⟨b,off,ha,hS,hx⟩:=h4 hp
 refine⟨b,off,ha,hS,fun j s hj=>?_⟩
 have he:=hx j s hj
 exact he.off ho (hd b (World.block_lt_of_cell? w _ he.1) hS) hd
theorem ShsAt.at {w:World} {a:Option Addr} {n cap:Nat} {l:List Sh} {S:Nat->Prop} (h:ShsAt w (.slice a n cap) l S) {k:Nat} (hk:k<n):∃ s b off,l[k]?=some s/\s.ok/\a=some ⟨b,off,none⟩/\S b/\ShAt w b (off+k*5) s S:=by
 obtain⟨a',cap',e,hc,h1,h2,h4⟩:=h
 simp at e
 obtain⟨rfl,rfl,rfl⟩:=e
 have hx:l[k]?=some l[k]:=List.getElem?_eq_getElem hk
 obtain⟨b,off,ha,hS,hat⟩:=h4 (by omega)
 exact⟨_,b,off,hx,h2 _ (List.getElem_mem _),ha,hS,hat k _ hx⟩
end
section
structure Pms where
 fd:Int
 th:Int
 sh:Int
 ln:Int
def Kn (id:Int):Prop:=id=1\/id=2
instance (id:Int):Decidable (Kn id):=inferInstanceAs (Decidable (id=1\/id=2))
def prN (q:Pms):Nat:=if ¬Kn q.fd then 3 else if q.sh<1\/255<q.sh then 5 else if q.th<1\/q.sh<q.th then 4 else if q.ln<0\/65535<q.ln then 6 else 0
def rndN (q:Pms):Int:=if prN q=0 then 64*(q.th-1)*(cntI q.ln:Int) else 0
def shN (s:Sh):Nat:=if ¬Kn s.fd then 3 else if s.th<1\/255<s.th then 4 else if s.ix<1\/255<s.ix then 12 else if s.ln<0\/65535<s.ln then 6 else if s.pl.length≠cntI s.ln then 8 else if ∀ x∈s.pl,x<modN s.fd then 0 else 9
theorem modN_pos {id:Int} (h:Kn id):1<modN id/\modN id<R256:=by
 rcases h with rfl | rfl
 ·decide
 decide
end
section
def firstE:List Sh->Nat
 | []=>0
 | s::t=>if shN s=0 then firstE t else shN s
theorem firstE_append:∀ (l t:List Sh),firstE l=0->firstE (l++t)=firstE t
 | [],_,_=>rfl
 | s::l,t,h=>by
  unfold firstE at h
  by_cases hs:shN s=0
  ·rw[if_pos hs]at h
   show(if shN s=0 then firstE (l++t) else shN s)=firstE t
   rw[if_pos hs]
   exact firstE_append l t h
  rw[if_neg hs]at h
  exact absurd h hs
theorem firstE_zero:∀ {l:List Sh},firstE l=0↔∀ s∈l,shN s=0
 | []=>by simp[firstE]
 | s::t=>by
  unfold firstE
  by_cases hs:shN s=0
  ·rw[if_pos hs,firstE_zero];simp[hs]
  rw[if_neg hs];simp[hs]
theorem firstE_cut {l:List Sh} {m:Nat} {s:Sh} (h:firstE (l.take m)=0) (hx:l[m]?=some s):firstE (l.take (m+1))=shN s/\(shN s≠0->firstE l=shN s):=by
 have e:firstE [s]=shN s:=by unfold firstE;split <;> simp_all [firstE]
 constructor
 ·rw[List.take_add_one,hx,firstE_append _ _ h];exact e
 intro hs
 have h2:l=l.take m++(s::l.drop (m+1)):=by
  rw[<-List.take_append_drop m l]
  have hlt:=(List.getElem?_eq_some_iff.1 hx).1
  have hv:=(List.getElem?_eq_some_iff.1 hx).2
  rw[List.take_append_drop,<-hv,<-List.drop_eq_getElem_cons hlt,List.take_append_drop]
 rw[h2,firstE_append _ _ h]
 show(if shN s=0 then _ else shN s)=shN s
 rw[if_neg hs]
def SameH (a b:Sh):Prop:=a.fd=b.fd/\a.th=b.th/\a.ln=b.ln
instance (a b:Sh):Decidable (SameH a b):=inferInstanceAs (Decidable (_/\_/\_))
def OneH (l:List Sh):Prop:=∀ s∈l,∀ t∈l,SameH s t
instance (l:List Sh):Decidable (OneH l):=inferInstanceAs (Decidable (∀ s∈l,∀ t∈l,SameH s t))
def ixs (l:List Sh):List Int:=l.map Sh.ix
def shsN (l:List Sh):Nat:=if firstE l≠0 then firstE l else if ¬OneH l then 14 else if ¬(ixs l).Nodup then 15 else if l=[]\/∃ s∈l,(l.length:Int)<s.th then 16 else 0
theorem oneH_of {l:List Sh} {s0:Sh} (h0:l[0]?=some s0):OneH l↔∀ (j:Nat) (s:Sh),l[j]?=some s->SameH s s0:=by
 constructor
 ·intro h j s hj
  exact h s (List.mem_of_getElem? hj) s0 (List.mem_of_getElem? h0)
 intro h s hs t ht
 obtain⟨j,hj⟩:=List.getElem?_of_mem hs
 obtain⟨k,hk⟩:=List.getElem?_of_mem ht
 have h1:=h j s hj
 have h2:=h k t hk
 exact⟨h1.1.trans h2.1.symm,h1.2.1.trans h2.2.1.symm,h1.2.2.trans h2.2.2.symm⟩
theorem nodup_ix {l:List Sh}:(ixs l).Nodup↔∀ (j k:Nat) (s t:Sh),k<j->l[j]?=some s->l[k]?=some t->s.ix≠t.ix:=by
 unfold ixs
 rw[List.nodup_iff_pairwise_ne,List.pairwise_iff_getElem]
 constructor
 ·intro h j k s t hkj hj hk e
  obtain⟨hj1,hj2⟩:=List.getElem?_eq_some_iff.1 hj
  obtain⟨hk1,hk2⟩:=List.getElem?_eq_some_iff.1 hk
  refine h k j (by simpa using hk1) (by simpa using hj1) hkj ?_
  simp[hj2,hk2,e]
 intro h i j hi hj hij e
 have hi':i<l.length:=by simpa using hi
 have hj':j<l.length:=by simpa using hj
 refine h j i l[j] l[i] hij (List.getElem?_eq_getElem hj') (List.getElem?_eq_getElem hi') ?_
 simpa using e.symm
theorem shsN_err {l:List Sh} {e:Nat} (h:firstE l=e) (h0:e≠0):shsN l=e:=by
 unfold shsN;rw[if_pos (by rw[h];exact h0),h]
theorem shsN_mix {l:List Sh} (h:firstE l=0) (h1:¬OneH l):shsN l=14:=by
 unfold shsN;rw[if_neg (fun c=>c h),if_pos h1]
theorem shsN_dup {l:List Sh} (h:firstE l=0) (h1:OneH l) (h2:¬(ixs l).Nodup):shsN l=15:=by
 unfold shsN;rw[if_neg (fun c=>c h),if_neg (fun c=>c h1),if_pos h2]
theorem shsN_nil:shsN []=16:=by
 unfold shsN
 rw[if_neg (by simp[firstE]),if_neg (by simp[OneH]),if_neg (by simp[ixs]),if_pos (.inl rfl)]
theorem shsN_end {l:List Sh} {s0:Sh} (h:firstE l=0) (h1:OneH l) (h2:(ixs l).Nodup) (h0:l[0]?=some s0):shsN l=if (l.length:Int)<s0.th then 16 else 0:=by
 unfold shsN;rw[if_neg (fun c=>c h),if_neg (fun c=>c h1),if_neg (fun c=>c h2)]
 have hm:=List.mem_of_getElem? h0
 by_cases hl:(l.length:Int)<s0.th
 ·rw[if_pos (.inr ⟨s0,hm,hl⟩),if_pos hl]
 rw[if_neg,if_neg hl]
 rintro(hn | ⟨s,hs,hlt⟩)
 ·subst hn;simp at hm
 exact hl ((h1 s hs s0 hm).2.1▸hlt)
def colN (l:List Sh) (c:Int):List Nat:=l.map fun s=>if 0<=c then s.pl.getD c.toNat 0 else 0
theorem colN_length (l:List Sh) (c:Int):(colN l c).length=l.length:=by simp[colN]
end
section
open Go.RowKit
attribute [local go_sem ↓] Go.wp_at_zero Go.wp_at_succ
set_option maxRecDepth 100000
set_option maxHeartbeats 4000000
theorem refknown_any (id:Int) (w:World):Calls Tryz.prog 63 #[.int .i64 id] w fun e w'=>e=.returned (.bool (decide (Kn id)))/\w'=w:=by
 by_cases h1:id=1
 ·subst h1
  rw[show decide (Kn 1)=true by decide]
  go_enter Tryz.func63,Tryz.ntmps63
  go_wp2
  go_ret
  exact⟨rfl,rfl⟩
 by_cases h2:id=2
 ·subst h2
  rw[show decide (Kn 2)=true by decide]
  go_enter Tryz.func63,Tryz.ntmps63
  go_wp2
  go_ret
  exact⟨rfl,rfl⟩
 rw[show decide (Kn id)=false from decide_eq_false (fun h=>h.elim h1 h2)]
 have e1:(id==1)=false:=by simpa using h1
 have e2:(id==2)=false:=by simpa using h2
 go_enter Tryz.func63,Tryz.ntmps63
 go_wp2
 go_ret
 exact⟨rfl,rfl⟩
end
section
open Go.RowKit
attribute [local go_sem ↓] Go.wp_at_zero Go.wp_at_succ
set_option maxRecDepth 100000
set_option maxHeartbeats 4000000
theorem ShAt.zero {w:World} {b o:Nat} {s:Sh} {S:Nat->Prop} (h:ShAt w b (o+0*5) s S):ShAt w b o s S:=by
 rw[show o+0*5=o by omega]at h;exact h
end
section
open Go.RowKit
attribute [local go_sem ↓] Go.wp_at_zero Go.wp_at_succ
set_option maxRecDepth 100000
set_option maxHeartbeats 4000000
structure ShV where
 sh:Sh
 pa:Option Addr
 pc:Nat
def ShV.cells (x:ShV):List Value:=[.int .i64 x.sh.fd,.int .i64 x.sh.th,.int .i64 x.sh.ix,.int .i64 x.sh.ln,.slice x.pa x.sh.pl.length x.pc]
def flat5:List ShV->List Value
 | []=>[]
 | x::r=>x.cells++flat5 r
theorem flat5_length:∀ l:List ShV,(flat5 l).length=l.length*5
 | []=>rfl
 | _::r=>by simp only[flat5,ShV.cells,List.length_append,List.length_cons,List.length_nil,flat5_length r];omega
theorem flat5_append:∀ l m:List ShV,flat5 (l++m)=flat5 l++flat5 m
 | [],_=>rfl
 | x::r,m=>by simp only[List.cons_append,flat5,flat5_append r m,List.append_assoc]
theorem flat5_get:∀ (l:List ShV) (j k:Nat) (x:ShV),l[j]?=some x->k<5->(flat5 l)[j*5+k]?=x.cells[k]?
 | [],j,k,x,h,_=>by simp at h
 | y::r,0,k,x,h,hk=>by
  simp at h;subst h
  rw[Nat.zero_mul,Nat.zero_add]
  exact List.getElem?_append_left (by simpa[ShV.cells]using hk)
 | y::r,j+1,k,x,h,hk=>by
  have h':=flat5_get r j k x (by simpa using h) hk
  show(y.cells++flat5 r)[(j+1)*5+k]?=_
  rw[List.getElem?_append_right (by simp[ShV.cells];omega),show(j+1)*5+k-y.cells.length=j*5+k by simp[ShV.cells];omega]
  exact h'
theorem flat5_one:∀ l:List ShV,∀ u∈flat5 l,u.oneCell'=true
 | [],u,h=>by cases h
 | x::r,u,h=>by
  rcases List.mem_append.1 h with h | h
  ·simp only[ShV.cells,List.mem_cons,List.not_mem_nil,or_false]at h
   rcases h with rfl | rfl | rfl | rfl | rfl <;> rfl
  exact flat5_one r u h
def PlAt (w:World) (x:ShV) (S:Nat->Prop):Prop:=x.sh.ok/\x.sh.pl.length<=x.pc/\VsAt w (.slice x.pa x.sh.pl.length x.pc) x.sh.pl S
theorem PlAt.off {w w':World} {x:ShV} {S S':Nat->Prop} (h:PlAt w x S) (ho:Off S' w w') (hd:∀ k,k<w.heap.size->S k->¬S' k):PlAt w' x S:=⟨h.1,h.2.1,h.2.2.off ho hd⟩
def SvsAt (w:World) (v:Value) (L:List ShV) (S:Nat->Prop):Prop :=
 ∃ a cap,v=.slice a L.length cap/\L.length<=cap/\(0<L.length->∃ b off,a=some ⟨b,off,none⟩/\S b/\∀ j x k u,L[j]?=some x->x.cells[k]?=some u->w.cell? ⟨b,off+j*5+k,none⟩=some u)
theorem VsAt.wide {w:World} {v:Value} {xs:List Nat} {S S':Nat->Prop} (h:VsAt w v xs S) (hs:∀ k,k<w.heap.size->S k->S' k):VsAt w v xs S':=by
 obtain⟨a,cap,hv,h1,h2,h4⟩:=h
 refine⟨a,cap,hv,h1,h2,fun hp=>?_⟩
 obtain⟨b,off,ha,hS,hc⟩:=h4 hp
 obtain⟨e,he⟩:∃ e,xs[0]?=some e:=⟨xs[0],List.getElem?_eq_getElem hp⟩
 exact⟨b,off,ha,hs b (World.block_lt_of_cell? w _ (hc 0 e he).1) hS,hc⟩
theorem cells5_of {w:World} {b o:Nat} {x:ShV} (h0:w.cell? ⟨b,o,none⟩=some (.int .i64 x.sh.fd)) (h1:w.cell? ⟨b,o+1,none⟩=some (.int .i64 x.sh.th)) (h2:w.cell? ⟨b,o+2,none⟩=some (.int .i64 x.sh.ix)) (h3:w.cell? ⟨b,o+3,none⟩=some (.int .i64 x.sh.ln)) (h4:w.cell? ⟨b,o+4,none⟩=some (.slice x.pa x.sh.pl.length x.pc)) {k:Nat} {u:Value} (hu:x.cells[k]?=some u):w.cell? ⟨b,o+k,none⟩=some u:=by
 match k,hu with
 | 0,hu=>simp[ShV.cells]at hu;subst hu;exact h0
 | 1,hu=>simp[ShV.cells]at hu;subst hu;exact h1
 | 2,hu=>simp[ShV.cells]at hu;subst hu;exact h2
 | 3,hu=>simp[ShV.cells]at hu;subst hu;exact h3
 | 4,hu=>simp[ShV.cells]at hu;subst hu;exact h4
 | n+5,hu=>simp[ShV.cells]at hu
theorem ShsAt.lift {w:World} {a:Option Addr} {n cap:Nat} {l:List Sh} {S:Nat->Prop} (h:ShsAt w (.slice a n cap) l S) :
  ∃ L:List ShV,L.map ShV.sh=l/\n=L.length/\n<=maxLen/\SvsAt w (.slice a n cap) L S/\∀ x∈L,PlAt w x S:=by
 obtain⟨a',cap',e,hc,h1,h2,h4⟩:=h
 simp at e
 obtain⟨rfl,rfl,rfl⟩:=e
 rcases Nat.eq_zero_or_pos l.length with h0 | hp
 ·obtain rfl:l=[]:=List.eq_nil_of_length_eq_zero h0
  exact⟨[],rfl,rfl,h1,⟨a,cap,rfl,hc,fun h=>by simp at h⟩,fun _ h=>by cases h⟩
 obtain⟨b,off,ha,hS,hat⟩:=h4 hp
 have H:∀ j,j<l.length->∃ x:ShV,l[j]?=some x.sh/\(∀ k u,x.cells[k]?=some u->w.cell? ⟨b,off+j*5+k,none⟩=some u)/\PlAt w x S:=by
  intro j hj
  have hx:l[j]?=some l[j]:=List.getElem?_eq_getElem hj
  obtain⟨c0,c1,c2,c3,pa,pc,c4,hpc,hV⟩:=hat j _ hx
  exact⟨⟨l[j],pa,pc⟩,hx,fun k u hu=>cells5_of (x:=⟨l[j],pa,pc⟩) c0 c1 c2 c3 c4 hu,h2 _ (List.getElem_mem _),hpc,hV⟩
 obtain⟨f,hf⟩:∃ f:Nat->ShV,∀ j,j<l.length->l[j]?=some (f j).sh/\(∀ k u,(f j).cells[k]?=some u->w.cell? ⟨b,off+j*5+k,none⟩=some u)/\PlAt w (f j) S :=
  ⟨fun j=>if h:j<l.length then(H j h).choose else⟨⟨0,0,0,0,[]⟩,none,0⟩,fun j h=>by simp only[h,dif_pos];exact(H j h).choose_spec⟩
 have hlen:((List.range l.length).map f).length=l.length:=by simp
 refine⟨(List.range l.length).map f,?_,hlen.symm,h1,⟨a,cap,by rw[hlen],by rw[hlen];exact hc,fun _=>⟨b,off,ha,hS,fun j x k u hx hu=>?_⟩⟩,fun x hx=>?_⟩
 ·apply List.ext_getElem?
  intro j
  rw[List.map_map,List.getElem?_map]
  by_cases hj:j<l.length
  ·rw[List.getElem?_eq_getElem (by simpa using hj),(hf j hj).1];simp
  rw[List.getElem?_eq_none (by simp;omega),List.getElem?_eq_none (by omega)];rfl
 ·rw[List.getElem?_map]at hx
  obtain⟨i,hi,rfl⟩:=Option.map_eq_some_iff.1 hx
  have hj:j<l.length:=by have:=(List.getElem?_eq_some_iff.1 hi).1;simpa using this
  obtain rfl:i=j:=by have:=(List.getElem?_eq_some_iff.1 hi).2;simpa using this.symm
  exact(hf i hj).2.1 k u hu
 obtain⟨i,hi,rfl⟩:=List.mem_map.1 hx
 exact(hf i (List.mem_range.1 hi)).2.2
theorem SvsAt.shs {w:World} {v:Value} {L:List ShV} {S S':Nat->Prop} (h:SvsAt w v L S) (hm:L.length<=maxLen) (hp:∀ x∈L,PlAt w x S) (hs:∀ k,k<w.heap.size->S k->S' k):ShsAt w v (L.map ShV.sh) S':=by
 obtain⟨a,cap,rfl,hc,hx⟩:=h
 refine⟨a,cap,by simp,by simpa using hc,by simpa using hm,fun s hs'=>?_,fun hpos=>?_⟩
 ·obtain⟨x,hx',rfl⟩:=List.mem_map.1 hs'
  exact(hp x hx').1
 obtain⟨b,off,ha,hS,hat⟩:=hx (by simpa using hpos)
 have c0:=hat 0 (L[0]'(by simpa using hpos)) 0 _ (List.getElem?_eq_getElem _) rfl
 refine⟨b,off,ha,hs b (World.block_lt_of_cell? w _ c0) hS,fun j s hj=>?_⟩
 rw[List.getElem?_map]at hj
 obtain⟨x,hxj,rfl⟩:=Option.map_eq_some_iff.1 hj
 have hP:=hp x (List.mem_of_getElem? hxj)
 exact⟨hat j x 0 _ hxj rfl,hat j x 1 _ hxj rfl,hat j x 2 _ hxj rfl,hat j x 3 _ hxj rfl,x.pa,x.pc,hat j x 4 _ hxj rfl,hP.2.1,hP.2.2.wide hs⟩
theorem SvsAt.off {w w':World} {v:Value} {L:List ShV} {S S':Nat->Prop} (h:SvsAt w v L S) (ho:Off S' w w') (hd:∀ k,k<w.heap.size->S k->¬S' k):SvsAt w' v L S:=by
 obtain⟨a,cap,hv,hc,hx⟩:=h
 refine⟨a,cap,hv,hc,fun hp=>?_⟩
 obtain⟨b,off,ha,hS,hat⟩:=hx hp
 refine⟨b,off,ha,hS,fun j x k u hj hu=>?_⟩
 have he:=hat j x k u hj hu
 exact ho.cell he (hd b (World.block_lt_of_cell? w _ he) hS)
def RowS (B:Nat) (W:World) (v:Value) (L:List ShV):Prop:=W.ownsRow B 45 5 v L.length (flat5 L)
theorem RowS.svs {B:Nat} {W:World} {v:Value} {L:List ShV} (h:RowS B W v L):SvsAt W v L (fun k=>B<=k/\k<W.heap.size):=by
 have h':=h
 rcases h.2 with ⟨rfl,hn⟩ | ⟨g,cap,cur,rfl,hBg,hgc,hnc,hcm,hcs,htake⟩
 ·refine⟨none,0,by rw[hn],by omega,fun hp=>by omega⟩
 refine⟨_,cap,rfl,by omega,fun _=>⟨g,0,rfl,⟨hBg,heap_lt hgc⟩,fun j x k u hj hu=>?_⟩⟩
 have hlt:=(List.getElem?_eq_some_iff.1 hj).1
 have hk:k<5:=by have:=(List.getElem?_eq_some_iff.1 hu).1;simpa[ShV.cells]using this
 have hc:=World.ownsRow.cellAt h' (j*5+k) (by omega)
 rw[show 0+j*5+k=j*5+k by omega,hc,flat5_get L j k x hj hk,hu]
theorem share_info:(Tryz.prog.info? 45).map (fun i=>(i.zero,i.size,i.bytes))=some (some (.agg #[.int .i64 0,.int .i64 0,.int .i64 0,.int .i64 0,.slice none 0 0]),5,56):=by kernel_rfl
theorem app_shs {w W:World} {v:Value} {L M:List ShV} (hO:Off (fun _=>False) w W) (h1:RowS w.heap.size W v L) {sv:Value} {S:Nat->Prop} (h2:SvsAt W sv M S) (hk:L.length+M.length<=100000) :
  ∃ v' w',(Builtin.append_ #[22,22] 22 #[v,sv]).run Tryz.prog W=.ok v' w'/\RowS w.heap.size w' v' (L++M)/\Off (fun _=>False) w w':=by
 obtain⟨i0,hi,hz0,hz1,hz2⟩:=info_parts share_info
 obtain⟨a,cap,rfl,hl,hat⟩:=h2
 rcases Nat.eq_zero_or_pos M.length with h0 | hp
 ·obtain rfl:M=[]:=List.eq_nil_of_length_eq_zero h0
  refine⟨v,W,?_,by rw[List.append_nil];exact h1,hO⟩
  have ht:=Tryz.underlying22
  rcases h1.2 with ⟨rfl,hn⟩ | ⟨g,cp,cur,rfl,_,_,hnc,_⟩
  ·cases a <;> simp[Builtin.append_,run_underlying ht,sizeOf,typeInfo,hi,Builtin.lenOf,Builtin.firstCells,loadCells,loadCellsFrom]
  cases a <;> simp[Builtin.append_,run_underlying ht,sizeOf,typeInfo,hi,Builtin.lenOf,Builtin.firstCells,hnc,storeCells,loadCells,loadCellsFrom]
 obtain⟨b,off,rfl,_,hc⟩:=hat hp
 obtain⟨v',w',hr,ho,hg,_,hb⟩:=run_append_own_at (P:=Tryz.prog) W w.heap.size 22 22 45 i0 _ 5 56 Tryz.underlying22 hi hz0 hz1 hz2 rfl (by decide) v L.length _ h1 ⟨b,off,none⟩ M.length cap (flat5 M) (by rw[flat5_length]) (fun j u hj=>by
  have hjl:j<(flat5 M).length:=(List.getElem?_eq_some_iff.1 hj).1
  rw[flat5_length]at hjl
  obtain⟨x,hx⟩:∃ x,M[j / 5]?=some x:=⟨_,List.getElem?_eq_getElem (by omega)⟩
  have hg:=flat5_get M (j / 5) (j%5) x hx (by omega)
  rw[show j / 5*5+j%5=j by omega,hj]at hg
  have:=hc _ x _ u hx hg.symm
  rw[Addr.add_lit]
  rw[show off+j / 5*5+j%5=off+j by omega]at this
  exact this) (flat5_one M) (by unfold maxLen;omega) (by omega) hO.size
 refine⟨v',w',hr,?_,grown_off hO (Nat.le_refl _) h1 hg⟩
 unfold RowS
 rw[flat5_append,List.length_append]
 exact ho
end
end Go.Proofs.YtbkgghhngeibhaaGreatDoor
