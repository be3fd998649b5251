/-
  A rule for a region that draws its order: what holds of the frame and the world whichever operations have been carried out, shown anew once an operation, holds at the end. Plain facts on the model's regions; no condition.
  What the drawn regions with calls, allocations and stores share: a block that was made is kept by the calls behind it. No condition.
  What a region's invariant says of slots and of blocks that the region makes. No condition.
  The frame of a region that draws its order, told by which operations have been carried out. Plain facts; no condition.
  The rule of a region that draws its order (by what holds whichever operations have been carried out), for the body of a range over a function. Plain facts on the model's regions; no condition.
-/
import Derived.Deep.RegionHeld3
import Derived.WalkKit
import Derived.Test.YtbkgghhngeibhaaGreatDoorPlainAll
import Derived.BigQuiet
import Derived.Deep.DeepCutAuto
import Derived.Deep.DrawnRows
import Derived.Laws.AppendOwnNone
import Derived.Lib.Hide
import Derived.Lib.LaidTab
import Derived.Lib.Walk
import Derived.MakeChecks
import Derived.OpenShut
import Derived.ProofKit
import Derived.RangeFuncNested
import Derived.Shelf.Spec.BitsCarry
import Derived.StillTailTactics
import Derived.Test.YtbkgghhngeibhaaGreatDoorChecked
import Derived.Test.YtbkgghhngeibhaaGreatDoorModGet
import Derived.WalkLawsBesides
import Derived.WalkSpells
import Derived.OrdersIn
import Derived.RangeFuncCalls
namespace Go.Proofs.YtbkgghhngeibhaaGreatDoor
section

def upd (l:Nat->Bool) (i:Nat):Nat->Bool:=fun j=>if j=i then true else l j
theorem upd_same (l:Nat->Bool) (i:Nat):upd l i i=true:=by simp[upd]
theorem upd_ne (l:Nat->Bool) {i j:Nat} (h:j≠i):upd l i j=l j:=by simp[upd,h]
def cnt (L:Array Bool):Nat:=L.toList.countP (fun b=>!b)
theorem countP_set:∀ (l:List Bool) (i:Nat),l[i]?=some false->(l.set i true).countP (fun b=>!b)+1=l.countP (fun b=>!b)
 | [],i,h=>by simp at h
 | b::l,0,h=>by
  simp at h;subst h
  simp
 | b::l,i+1,h=>by
  have h':l[i]?=some false:=by simpa using h
  have:=countP_set l i h'
  simp only[List.set_cons_succ,List.countP_cons]
  omega
theorem cnt_set {L:Array Bool} {i:Nat} (h:L.getD i true=false):cnt (L.setIfInBounds i true)+1=cnt L:=by
 have hi:L.toList[i]?=some false:=by
  rw[Array.getD_eq_getD_getElem?]at h
  cases hL:L[i]? with
  | none=>simp[hL]at h
  | some b=>simp[hL]at h;subst h;simpa using hL
 unfold cnt
 rw[Array.toList_setIfInBounds]
 exact countP_set _ _ hi

section
variable {P:Program} {ops:Array Oper} {Q:Exit->Act->World->Prop} {md:Region.Mode}

theorem wpAny_inv (I:(Nat->Bool)->Act->World->Prop)
  (step:∀ (i:Nat) (o:Oper),ops[i]?=some o->∀ l a w,I l a w->l i=false->(∀ e∈o.after,Region.binds md e=true->l e.on=true)->wpOp P ops Q i (fun a' w'=>I (upd l i) a' w') a w)
  (hback:∀ (i:Nat) (o:Oper),ops[i]?=some o->∀ e∈o.after,Region.binds md e=true->e.on<i)
  (done:∀ l a w,I l a w->(∀ i,i<ops.size->l i=true)->Q .normal a w) :
  ∀ (fuel:Nat) (L:Array Bool) (a:Act) (w:World),L.size=ops.size->cnt L<=fuel->I (fun j=>L.getD j false) a w->wpAny P md ops Q fuel L a w:=by
 have fin:∀ (L:Array Bool) (a:Act) (w:World),L.size=ops.size->Region.ready md ops L=[]->I (fun j=>L.getD j false) a w->Q .normal a w:=by
  intro L a w hL hr hI
  refine done _ a w hI fun i=>?_
  induction i using Nat.strongRecOn with
  | _ i ih =>
   intro hi
   cases hb:L.getD i false with
   | true=>rfl
   | false =>
    exfalso
    have hb2:L.getD i true=false:=by
     rw[Array.getD_eq_getD_getElem?]at hb ⊢
     cases hLi:L[i]? with
     | none=>rw[Array.getElem?_eq_none_iff]at hLi;omega
     | some b=>simpa[hLi]using hb
    have:i∈Region.ready md ops L:=mem_ready.2 ⟨hb2,ops[i],by simp[hi],fun e he hb'=>by
     have h1:=hback i ops[i] (by simp[hi]) e he hb'
     exact ih e.on h1 (by omega)⟩
    rw[hr]at this
    cases this
 intro fuel
 induction fuel with
 | zero =>
  intro L a w hL hc hI
  have hr:Region.ready md ops L=[]:=by
   cases hq:Region.ready md ops L with
   | nil=>rfl
   | cons i r =>
    have hi:i∈Region.ready md ops L:=by rw[hq];simp
    have:=cnt_set (mem_ready.1 hi).1
    omega
  exact⟨hr,fin L a w hL hr hI⟩
 | succ fuel ih =>
  intro L a w hL hc hI
  refine⟨fun hr=>fin L a w hL hr hI,fun i hi=>?_⟩
  obtain⟨h1,o,ho,hdep⟩:=mem_ready.1 hi
  have hlt:i<L.size:=by
   rcases Nat.lt_or_ge i L.size with h | h
   ·exact h
   rw[Array.getD_eq_getD_getElem?,Array.getElem?_eq_none h]at h1;cases h1
  have h2:L.getD i false=false:=by
   rw[Array.getD_eq_getD_getElem?]at h1 ⊢
   cases hLi:L[i]? with
   | none=>rfl
   | some b=>simpa[hLi]using h1
  refine wpOp_mono (fun a' w' h'=>ih _ a' w' (by simpa using hL) (by have:=cnt_set h1;omega) ?_) (step i o ho _ a w hI h2 hdep)
  have e:(fun j=>(L.setIfInBounds i true).getD j false)=upd (fun j=>L.getD j false) i:=by
   funext j
   by_cases hj:j=i
   ·subst hj
    rw[upd_same]
    rw[Array.getD_eq_getD_getElem?]
    simp[hlt]
   rw[upd_ne _ hj]
   exact getD_set_ne false (fun e=>hj e.symm)
  rw[e];exact h'

def depsOf (o:Oper):List Nat:=(o.after.toList.filter fun e=>Region.binds .any e).map (·.on)
def StepAt (P:Program) (ops:Array Oper) (Q:Exit->Act->World->Prop) (I:(Nat->Bool)->Act->World->Prop) (i:Nat) (o:Oper):Prop :=
 ∀ l a w,I l a w->l i=false->(∀ d∈depsOf o,l d=true)->∀ K':Act->World->Prop,Shut (∀ a' w',I (upd l i) a' w'->K' a' w')->if Region.wanted o (yielded ops a.tmps)=true then Oper.wp P o a w K' Q else K' (a.put o.dst undef) w
def StepsAt (P:Program) (ops:Array Oper) (Q:Exit->Act->World->Prop) (I:(Nat->Bool)->Act->World->Prop):Nat->List Oper->Prop
 | _,[]=>True
 | s,o::r=>StepAt P ops Q I s o/\StepsAt P ops Q I (s+1) r
theorem StepsAt.get {I:(Nat->Bool)->Act->World->Prop}:∀ {s:Nat} {r:List Oper} (_:StepsAt P ops Q I s r) (k:Nat) (o:Oper),r[k]?=some o->StepAt P ops Q I (s+k) o
 | _,[],_,k,o,h=>by simp at h
 | s,o'::r,hs,0,o,h=>by simp at h;subst h;exact hs.1
 | s,o'::r,hs,k+1,o,h=>by
  have:=StepsAt.get hs.2 k o (by simpa using h)
  rw[show s+(k+1)=s+1+k by omega];exact this
def backB (ops:Array Oper):Bool:=(List.range ops.size).all fun i=>((ops[i]?).map fun o=>o.after.all fun e=>!Region.binds .any e||decide (e.on<i)).getD true
theorem back_of (h:backB ops=true) (i:Nat) (o:Oper) (ho:ops[i]?=some o):∀ e∈o.after,Region.binds .any e=true->e.on<i:=by
 have hi:i<ops.size:=(Array.getElem?_eq_some_iff.1 ho).1
 have:=List.all_eq_true.1 h i (List.mem_range.2 hi)
 rw[ho]at this
 simp only[Option.map_some,Option.getD_some]at this
 intro e he hb
 have h2:=(Array.all_eq_true.1 this)
 obtain⟨k,hk,rfl⟩:=Array.getElem_of_mem he
 have h3:=h2 k hk
 rw[hb]at h3
 simpa using h3
theorem wp_region_inv {id:Nat} {a:Act} {w:World} (I:Act->(Nat->Bool)->Act->World->Prop) (hm:P.follows .mixedOrders=true) (hb:backB ops=true)
  (h0:I a (fun _=>false) a w.drew) (hs:StepsAt P ops Q (I a) 0 ops.toList)
  (done:∀ l a' w',I a l a' w'->(∀ i,i<ops.size->l i=true)->Q .normal a' w'):(Code.region id ops true).wp P Q a w:=by
 refine wp_region_any hm (wpAny_inv (md:=.any) (I a) ?_ (back_of hb) done ops.size _ a _ (by simp) (by simp[cnt,List.countP_replicate]) ?_)
 ·intro i o ho l a w hI hl hd
  have h1:=StepsAt.get hs i o (by simpa using ho)
  rw[Nat.zero_add]at h1
  refine wpOp_step ho fun K' hK=>?_
  exact h1 l a w hI hl (fun d hd'=>by
   obtain⟨e,he,rfl⟩:=List.mem_map.1 hd'
   rw[List.mem_filter]at he
   exact hd e (by simpa using he.1) he.2) K' (fun a' w' h=>hK a' w' h)
 have e:(fun j=>(Array.replicate ops.size false).getD j false)=(fun _=>false):=by
  funext j
  rw[Array.getD_eq_getD_getElem?,Array.getElem?_replicate]
  split <;> rfl
 rw[e];exact h0
end
end
section
open Go.RowKit

abbrev S4 (u:World) (b n:Nat):World:=(((u.setCell ⟨b,0,none⟩ (.int .u64 (wd n 0))).setCell ⟨b,1,none⟩ (.int .u64 (wd n 1))).setCell ⟨b,2,none⟩ (.int .u64 (wd n 2))).setCell ⟨b,3,none⟩ (.int .u64 (wd n 3))
end
section
open Go.RowKit

def Slot (l:Nat->Bool) (i:Nat) (u v:Value):Prop:=l i=true->u=v
theorem Slot.start (i:Nat) (u v:Value):Slot (fun _=>false) i u v:=fun h=>by cases h
theorem Slot.new (l:Nat->Bool) (i:Nat) (v:Value):Slot (upd l i) i v v:=fun _=>rfl
theorem Slot.keep {l:Nat->Bool} {i:Nat} {u v:Value} (h:Slot l i u v) {k:Nat} (hk:(k==i)=false):Slot (upd l k) i u v:=fun hl=>by
 rw[upd_ne _ (fun e=>by subst e;simp at hk)]at hl;exact h hl

theorem setCells_heap (b:Nat) {T:TypeId}:∀ (vs pre mid:List Value) (w:World) (o:Nat),pre.length=o->mid.length=vs.length->w.heap[b]?=some (.cells (pre++mid).toArray T (0,0)) ->
  (w.setCells b o vs).heap[b]?=some (.cells (pre++vs).toArray T (0,0))
 | [],pre,mid,w,o,_,hm,h=>by
  have:mid=[]:=List.eq_nil_of_length_eq_zero hm
  subst this;exact h
 | v::vs,pre,[],w,o,_,hm,_=>by simp at hm
 | v::vs,pre,x::mid,w,o,ho,hm,h=>by
  have h1:=heap_set h o v
  have e:(pre++x::mid).toArray.setIfInBounds o v=((pre++[v])++mid).toArray:=by
   subst ho
   apply Array.ext'
   simp
  rw[e]at h1
  have:=setCells_heap b vs (pre++[v]) mid _ (o+1) (by simp[ho]) (by simpa using hm) h1
  have e2:(pre++[v])++vs=pre++v::vs:=by simp
  rw[e2]at this
  exact this
theorem setCells_at {b:Nat} {T:TypeId} {w:World} {c:Array Value} {vs:List Value} (h:w.heap[b]?=some (.cells c T (0,0))) (hs:c.toList.length=vs.length):(w.setCells b 0 vs).heap[b]?=some (.cells vs.toArray T (0,0)):=by
 have:=setCells_heap b vs [] c.toList w 0 rfl hs (by simpa using h)
 simpa using this
theorem setCells_in {S:Nat->Prop} {a u:World} {b:Nat} (h:Off S a u) (hb:b<a.heap.size->S b) (vs:List Value):Off S a (u.setCells b 0 vs) :=
 h.trans (setCells_off b vs 0 u) (fun _ hk e=>by subst e;exact hb hk)

structure Blk (l:Nat->Bool) (i s:Nat) (u:Value) (b:Nat) (W0 w:World) (Z X:Obj):Prop where
 ptr:l i=true->u=.pointer (some ⟨b,0,none⟩)
 new:l i=true->W0.heap.size<=b
 was:l i=true->l s=false->w.heap[b]?=some Z
 now:l i=true->l s=true->w.heap[b]?=some X
 dep:l i=false->l s=false
structure Old (l:Nat->Bool) (s:Nat) (b:Nat) (W0 w:World) (Z X:Obj):Prop where
 lt:b<W0.heap.size
 was:l s=false->w.heap[b]?=some Z
 now:l s=true->w.heap[b]?=some X
theorem Old.start {b:Nat} {W0:World} {Z:Obj} (h:W0.heap[b]?=some Z) (s:Nat) (X:Obj):Old (fun _=>false) s b W0 W0.drew Z X:=⟨heap_lt h,fun _=>h,fun h=>by cases h⟩
theorem Blk.start (i s:Nat) (u:Value) (b:Nat) (W0 w:World) (Z X:Obj):Blk (fun _=>false) i s u b W0 w Z X:=⟨fun h=>(by cases h),fun h=>(by cases h),fun h=>(by cases h),fun h=>(by cases h),fun _=>rfl⟩
theorem upd_k (l:Nat->Bool) {i k:Nat} (hk:(k==i)=false):upd l k i=l i:=upd_ne _ (fun e=>by subst e;simp at hk)
theorem Blk.lt {l:Nat->Bool} {i s:Nat} {u:Value} {b:Nat} {W0 w:World} {Z X:Obj} (h:Blk l i s u b W0 w Z X) (hi:l i=true):b<w.heap.size:=by
 cases hs:l s with
 | false=>exact heap_lt (h.was hi hs)
 | true=>exact heap_lt (h.now hi hs)
theorem Blk.keep {l:Nat->Bool} {i s:Nat} {u:Value} {b:Nat} {W0 w w':World} {Z X:Obj} (h:Blk l i s u b W0 w Z X) (ho:Off (fun _=>False) w w') {k:Nat} (hk:(k==i)=false) (hk2:(k==s)=false):Blk (upd l k) i s u b W0 w' Z X:=by
 have e1:=upd_k l hk
 have e2:=upd_k l hk2
 refine⟨?_,?_,?_,?_,?_⟩ <;> rw[e1] <;> try rw[e2]
 ·exact h.ptr
 ·exact h.new
 ·exact fun a b=>ho.heap (h.was a b) (fun c=>c)
 ·exact fun a b=>ho.heap (h.now a b) (fun c=>c)
 exact h.dep
theorem Old.keep {l:Nat->Bool} {s:Nat} {b:Nat} {W0 w w':World} {Z X:Obj} (h:Old l s b W0 w Z X) (ho:Off (fun _=>False) w w') {k:Nat} (hk2:(k==s)=false):Old (upd l k) s b W0 w' Z X:=by
 have e2:=upd_k l hk2
 refine⟨h.lt,?_,?_⟩ <;> rw[e2]
 ·exact fun b=>ho.heap (h.was b) (fun c=>c)
 exact fun b=>ho.heap (h.now b) (fun c=>c)
theorem Blk.make {l:Nat->Bool} {i s:Nat} {u:Value} {b:Nat} {S:Nat->Prop} {W0 w:World} {Z X:Obj} (h:Blk l i s u b W0 w Z X) (hl:l i=false) (hne:(i==s)=false) (hW:Off S W0 w) :
  Blk (upd l i) i s (.pointer (some ⟨w.heap.size,0,none⟩)) w.heap.size W0 (w.alloc Z) Z X:=by
 have e2:upd l i s=false:=(upd_ne _ (fun e=>by subst e;simp at hne)).trans (h.dep hl)
 exact⟨fun _=>rfl,fun _=>hW.size,fun _ _=>heap_new' rfl _,fun _ h2=>(by rw[e2]at h2;cases h2),fun h2=>by rw[upd_same]at h2;cases h2⟩
theorem Blk.put {l:Nat->Bool} {i s:Nat} {u:Value} {b:Nat} {W0 w:World} {T:TypeId} {c:Array Value} {vs:List Value} (h:Blk l i s u b W0 w (.cells c T) (.cells vs.toArray T)) (hl:l s=false) (hi:l i=true) (hne:(i==s)=false) (hs:c.toList.length=vs.length) :
  Blk (upd l s) i s u b W0 (w.setCells b 0 vs) (.cells c T) (.cells vs.toArray T):=by
 have e1:upd l s i=true:=(upd_ne _ (fun e=>by subst e;simp at hne)).trans hi
 refine⟨fun _=>h.ptr hi,fun _=>h.new hi,fun _ h2=>(by rw[upd_same]at h2;cases h2),fun _ _=>setCells_at (h.was hi hl) hs,fun h2=>by rw[e1]at h2;cases h2⟩
theorem Old.put {l:Nat->Bool} {s:Nat} {b:Nat} {W0 w:World} {T:TypeId} {c:Array Value} {vs:List Value} (h:Old l s b W0 w (.cells c T) (.cells vs.toArray T)) (hl:l s=false) (hs:c.toList.length=vs.length) :
  Old (upd l s) s b W0 (w.setCells b 0 vs) (.cells c T) (.cells vs.toArray T) :=
 ⟨h.lt,fun h2=>(by rw[upd_same]at h2;cases h2),fun _=>setCells_at (h.was hl) hs⟩
theorem zero_cells {w:World} {b:Nat} {T:TypeId} (h:w.heap[b]?=some (.cells #[.int .u64 0,.int .u64 0,.int .u64 0,.int .u64 0] T)):(w.cell? ⟨b,0,none⟩=some (.int .u64 0)/\w.cell? ⟨b,1,none⟩=some (.int .u64 0)/\w.cell? ⟨b,2,none⟩=some (.int .u64 0)/\w.cell? ⟨b,3,none⟩=some (.int .u64 0))/\(∀ j,w.frozen? ⟨b,j,none⟩=false)/\b<w.heap.size:=by
 refine⟨⟨?_,?_,?_,?_⟩,fun j=>frozen_of_heap h j,heap_lt h⟩ <;> rw[cell_of_heap h] <;> rfl
theorem cells4 {w:World} {b:Nat} {T:TypeId} {c0 c1 c2 c3:Value} (h:w.heap[b]?=some (.cells #[c0,c1,c2,c3] T (0,0))) :
  w.cell? ⟨b,0,none⟩=some c0/\w.cell? ⟨b,1,none⟩=some c1/\w.cell? ⟨b,2,none⟩=some c2/\w.cell? ⟨b,3,none⟩=some c3:=by
 refine⟨?_,?_,?_,?_⟩ <;> rw[cell_of_heap h] <;> rfl
theorem held_inv {S:Nat->Prop} {f:FuncId} {args:Array Value} {v:Value} {W0 W:World} (hc:Calls Tryz.prog f args W fun e w'=>e=.returned v/\Off (fun _=>False) W w') (h:Off S W0 W) :
  Calls Tryz.prog f args W fun e w'=>e=.returned v/\Off S W0 w'/\Off (fun _=>False) W w' :=
 hc.mono fun _ _ ⟨he,hO⟩=>⟨he,h.trans hO (fun _ _ c=>c.elim),hO⟩
end
section
def sel (b:Bool) (v z:Value):Value:=if b then v else z
theorem sel_of {b:Bool} (h:b=true) (v z:Value):sel b v z=v:=by unfold sel;rw[if_pos h]
theorem sel_dep {l:Nat->Bool} {i d:Nat} (h:l d=true) (v z:Value):sel (upd l i d) v z=v:=sel_of (by unfold upd;split <;> first | rfl | exact h) v z
theorem sel_new (l:Nat->Bool) (i:Nat) (v z:Value):sel (upd l i i) v z=v:=sel_of (upd_same l i) v z
theorem sel_start (v z:Value):sel false v z=z:=rfl
def fill (a:Act) (n:Nat) (vs:List Value):Act:={ a with tmps:=(a.tmps.toList.take n++vs).toArray }
theorem XF:(∀ (t vs:List Value) (d) (n:Nat),fill ⟨t.toArray,d⟩ n vs=⟨(t.take n++vs).toArray,d⟩)/\(∀ (x:Value) (l:List Value) (n:Nat),(x::l).take (n+1)=x::l.take n)/\(∀ l:List Value,l.take 0=[])/\(∀ (x:Value) (l m:List Value),x::l++m=x::(l++m))/\(∀ l:List Value,[]++l=l):=⟨fun _ _ _ _=>rfl,fun _ _ _=>rfl,fun _=>rfl,fun _ _ _=>rfl,fun _=>rfl⟩
end
section

theorem rows_inRound {l n:Nat} {P:Program} {row:String} {args:Array Value} {w:World} {R:Value->World->Prop} (h:Rows P row args w R):RowsIn (Fence.wide.inRound l) n P row args w R :=
 fun c cs _=>let ⟨v,w',r,s⟩:=h c cs;⟨v,w',r,(stepsIn_wide).2 s⟩
theorem oper_inRound {l n:Nat} {P:Program} {o:Oper} {a:Act} {w:World} {K:Act->World->Prop} {Q:Exit->Act->World->Prop} (hnd:∀ c,o.op≠.defer c) (h:o.wp P a w K Q) :
  o.wpIn (Fence.wide.inRound l) n P a w K Q:=by
 refine⟨fun _ _=>trivial,?_⟩
 rw[show o.semAt (Fence.wide.inRound l).round a.eval=execOp a.eval o from Oper.semAt_some l _ o hnd]
 unfold Oper.wp at h
 generalize (execOp a.eval o).run P w=r at *
 have hd:(Fence.wide.inRound l).depth.isSome=true->1<=n:=fun c=>by cases c
 cases r with
 | ok x w' =>
  cases x <;> simp only[Oper.upon,Oper.uponIn]at h ⊢ <;>
   first
    | exact h
    | exact⟨hd,CallsIn.inRound l (callsIn_wide.2 h)⟩
    | exact⟨hd,rows_inRound h⟩
    | exact h.elim
 | halt x w'=>cases x <;> simp only[Oper.upon,Oper.uponIn]at h ⊢ <;> exact h
def noDefer (ops:Array Oper):Bool:=ops.toList.all fun o=>match o.op with | .defer _=>false | _=>true
theorem noDefer_of {ops:Array Oper} (h:noDefer ops=true) {i:Nat} {o:Oper} (ho:ops[i]?=some o):∀ c,o.op≠.defer c:=by
 intro c hc
 have h1:o∈ops.toList:=by
  obtain⟨hi,rfl⟩:=Array.getElem?_eq_some_iff.1 ho
  simp
 have:=List.all_eq_true.1 h o h1
 rw[hc]at this
 cases this

section
variable {P:Program} {ops:Array Oper} {Q:Exit->Act->World->Prop} {md:Region.Mode} {F:Fence} {n:Nat}
theorem wpAnyIn_inv (I:(Nat->Bool)->Act->World->Prop)
  (step:∀ (i:Nat) (o:Oper),ops[i]?=some o->∀ l a w,I l a w->l i=false->(∀ e∈o.after,Region.binds md e=true->l e.on=true)->wpOpIn F n P ops Q i (fun a' w'=>I (upd l i) a' w') a w)
  (hback:∀ (i:Nat) (o:Oper),ops[i]?=some o->∀ e∈o.after,Region.binds md e=true->e.on<i)
  (done:∀ l a w,I l a w->(∀ i,i<ops.size->l i=true)->Q .normal a w) :
  ∀ (fuel:Nat) (L:Array Bool) (a:Act) (w:World),L.size=ops.size->cnt L<=fuel->I (fun j=>L.getD j false) a w->wpAnyIn F n P md ops Q fuel L a w:=by
 have fin:∀ (L:Array Bool) (a:Act) (w:World),L.size=ops.size->Region.ready md ops L=[]->I (fun j=>L.getD j false) a w->Q .normal a w:=by
  intro L a w hL hr hI
  refine done _ a w hI fun i=>?_
  induction i using Nat.strongRecOn with
  | _ i ih =>
   intro hi
   cases hb:L.getD i false with
   | true=>rfl
   | false =>
    exfalso
    have hb2:L.getD i true=false:=by
     rw[Array.getD_eq_getD_getElem?]at hb ⊢
     cases hLi:L[i]? with
     | none=>rw[Array.getElem?_eq_none_iff]at hLi;omega
     | some b=>simpa[hLi]using hb
    have:i∈Region.ready md ops L:=mem_ready.2 ⟨hb2,ops[i],by simp[hi],fun e he hb'=>by
     have h1:=hback i ops[i] (by simp[hi]) e he hb'
     exact ih e.on h1 (by omega)⟩
    rw[hr]at this
    cases this
 intro fuel
 induction fuel with
 | zero =>
  intro L a w hL hc hI
  have hr:Region.ready md ops L=[]:=by
   cases hq:Region.ready md ops L with
   | nil=>rfl
   | cons i r =>
    have hi:i∈Region.ready md ops L:=by rw[hq];simp
    have:=cnt_set (mem_ready.1 hi).1
    omega
  exact⟨hr,fin L a w hL hr hI⟩
 | succ fuel ih =>
  intro L a w hL hc hI
  refine⟨fun hr=>fin L a w hL hr hI,fun i hi=>?_⟩
  obtain⟨h1,o,ho,hdep⟩:=mem_ready.1 hi
  have hlt:i<L.size:=by
   rcases Nat.lt_or_ge i L.size with h | h
   ·exact h
   rw[Array.getD_eq_getD_getElem?,Array.getElem?_eq_none h]at h1;cases h1
  have h2:L.getD i false=false:=by
   rw[Array.getD_eq_getD_getElem?]at h1 ⊢
   cases hLi:L[i]? with
   | none=>rfl
   | some b=>simpa[hLi]using h1
  refine wpOpIn_mono (fun a' w' h'=>ih _ a' w' (by simpa using hL) (by have:=cnt_set h1;omega) ?_) (step i o ho _ a w hI h2 hdep)
  have e:(fun j=>(L.setIfInBounds i true).getD j false)=upd (fun j=>L.getD j false) i:=by
   funext j
   by_cases hj:j=i
   ·subst hj
    rw[upd_same]
    rw[Array.getD_eq_getD_getElem?]
    simp[hlt]
   rw[upd_ne _ hj]
   exact getD_set_ne false (fun e=>hj e.symm)
  rw[e];exact h'
end
section
variable {P:Program} {ops:Array Oper} {Q:Exit->Act->World->Prop}
theorem wpIn_region_inv {id l n:Nat} {a:Act} {w:World} (I:Act->(Nat->Bool)->Act->World->Prop) (hm:P.follows .mixedOrders=true) (hb:backB ops=true) (hnd:noDefer ops=true)
  (h0:I a (fun _=>false) a w.drew) (hs:StepsAt P ops Q (I a) 0 ops.toList)
  (done:∀ l a' w',I a l a' w'->(∀ i,i<ops.size->l i=true)->Q .normal a' w'):(Code.region id ops true).wpIn (Fence.wide.inRound l) n P Q a w:=by
 refine wpIn_region_any hm (wpAnyIn_inv (md:=.any) (I a) ?_ (back_of hb) done ops.size _ a _ (by simp) (by simp[cnt,List.countP_replicate]) ?_)
 ·intro i o ho l a1 w1 hI hl hd
  have h1:=StepsAt.get hs i o (by simpa using ho)
  rw[Nat.zero_add]at h1
  have h2:=h1 l a1 w1 hI hl (fun d hd'=>by
   obtain⟨e,he,rfl⟩:=List.mem_map.1 hd'
   rw[List.mem_filter]at he
   exact hd e (by simpa using he.1) he.2) (fun a' w'=>I a (upd l i) a' w') (fun _ _ h=>h)
  unfold wpOpIn
  rw[ho]
  show if Region.wanted o (yielded ops a1.tmps)=true then _ else _
  split
  ·rename_i hw;rw[if_pos hw]at h2;exact oper_inRound (noDefer_of hnd ho) h2
  rename_i hw;rw[if_neg hw]at h2;exact⟨fun _ _=>trivial,h2⟩
 have e:(fun j=>(Array.replicate ops.size false).getD j false)=(fun _=>false):=by
  funext j
  rw[Array.getD_eq_getD_getElem?,Array.getElem?_replicate]
  split <;> rfl
 rw[e];exact h0
theorem rows_wide {n:Nat} {P:Program} {row:String} {args:Array Value} {w:World} {R:Value->World->Prop} (h:Rows P row args w R):RowsIn Fence.wide n P row args w R :=
 fun c cs _=>let ⟨v,w',r,s⟩:=h c cs;⟨v,w',r,(stepsIn_wide).2 s⟩
theorem oper_wide {n:Nat} {P:Program} {o:Oper} {a:Act} {w:World} {K:Act->World->Prop} {Q:Exit->Act->World->Prop} (h:o.wp P a w K Q) :
  o.wpIn Fence.wide n P a w K Q:=by
 refine⟨fun _ _=>trivial,?_⟩
 rw[show o.semAt Fence.wide.round a.eval=execOp a.eval o from rfl]
 unfold Oper.wp at h
 generalize (execOp a.eval o).run P w=r at *
 have hd:Fence.wide.depth.isSome=true->1<=n:=fun c=>by cases c
 cases r with
 | ok x w' =>
  cases x <;> simp only[Oper.upon,Oper.uponIn]at h ⊢ <;>
   first
    | exact h
    | exact⟨hd,callsIn_wide.2 h⟩
    | exact⟨hd,rows_wide h⟩
    | exact h.elim
 | halt x w'=>cases x <;> simp only[Oper.upon,Oper.uponIn]at h ⊢ <;> exact h
theorem wpWide_region_inv {id n:Nat} {a:Act} {w:World} (I:Act->(Nat->Bool)->Act->World->Prop) (hm:P.follows .mixedOrders=true) (hb:backB ops=true) (_hnd:noDefer ops=true)
  (h0:I a (fun _=>false) a w.drew) (hs:StepsAt P ops Q (I a) 0 ops.toList)
  (done:∀ l a' w',I a l a' w'->(∀ i,i<ops.size->l i=true)->Q .normal a' w'):(Code.region id ops true).wpIn Fence.wide n P Q a w:=by
 refine wpIn_region_any hm (wpAnyIn_inv (md:=.any) (I a) ?_ (back_of hb) done ops.size _ a _ (by simp) (by simp[cnt,List.countP_replicate]) ?_)
 ·intro i o ho l a1 w1 hI hl hd
  have h1:=StepsAt.get hs i o (by simpa using ho)
  rw[Nat.zero_add]at h1
  have h2:=h1 l a1 w1 hI hl (fun d hd'=>by
   obtain⟨e,he,rfl⟩:=List.mem_map.1 hd'
   rw[List.mem_filter]at he
   exact hd e (by simpa using he.1) he.2) (fun a' w'=>I a (upd l i) a' w') (fun _ _ h=>h)
  unfold wpOpIn
  rw[ho]
  show if Region.wanted o (yielded ops a1.tmps)=true then _ else _
  split
  ·rename_i hw;rw[if_pos hw]at h2;exact oper_wide h2
  rename_i hw;rw[if_neg hw]at h2;exact⟨fun _ _=>trivial,h2⟩
 have e:(fun j=>(Array.replicate ops.size false).getD j false)=(fun _=>false):=by
  funext j
  rw[Array.getD_eq_getD_getElem?,Array.getElem?_replicate]
  split <;> rfl
 rw[e];exact h0
end
end
end Go.Proofs.YtbkgghhngeibhaaGreatDoor
