/-
  Numbers as bytes: the byte with the index i has the weight 256^i. Plain arithmetic; no condition but that bytes are below 256.
  Bytes in memory: whole blocks of bytes, and slices of bytes. Plain facts on worlds; no condition.
  Contracts of package bytecode over this seat's translation, words: bytesOf and the closure of numberOf. Conditions: as each says.
-/
import Derived.Test.YtpfjgifcjengkaaGreatDoorPlainAll
import Derived.Test.YtpfjgifcjengkaaGreatDoorNumsT
import Derived.Deep.OwnRows
import Derived.Shelf.Bytes.SlEqualAll
import Derived.Test.YtpfjgifcjengkaaGreatDoorLimbOps
namespace Go.Proofs.YtpfjgifcjengkaaGreatDoor
open Lib (hid)
section

def numB:List Nat->Nat
 | []=>0
 | b::r=>b+256*numB r
def by8 (n i:Nat):Nat:=dg 256 n i
def bytesN (n k:Nat):List Nat:=(List.range k).map (by8 n)
def Small (bs:List Nat):Prop:=∀ b∈bs,b<256
theorem by8_lt (n i:Nat):by8 n i<256:=dg_lt (by decide) n i
theorem bytesN_length (n k:Nat):(bytesN n k).length=k:=by simp[bytesN]
theorem bytesN_small (n k:Nat):Small (bytesN n k):=fun b h=>by
 obtain⟨i,_,rfl⟩:=List.mem_map.1 h
 exact by8_lt n i
theorem bytesN_get (n k i:Nat) (hi:i<k):(bytesN n k)[i]?=some (by8 n i):=by simp[bytesN,hi]
theorem bytesN_succ (n k:Nat):bytesN n (k+1)=bytesN n k++[by8 n k]:=by simp[bytesN,List.range_succ]
theorem Small.tail {b:Nat} {bs:List Nat} (h:Small (b::bs)):Small bs:=fun x hx=>h x (List.mem_cons_of_mem _ hx)
theorem Small.head {b:Nat} {bs:List Nat} (h:Small (b::bs)):b<256:=h b List.mem_cons_self
theorem Small.take {bs:List Nat} (h:Small bs) (k:Nat):Small (bs.take k):=fun x hx=>h x (List.mem_of_mem_take hx)
theorem Small.drop {bs:List Nat} (h:Small bs) (k:Nat):Small (bs.drop k):=fun x hx=>h x (List.mem_of_mem_drop hx)
theorem by8_wd (n i k:Nat) (hk:k<8):by8 (wd n i) k=by8 n (8*i+k):=by
 unfold by8 wd dg
 have e:W64=256^(k+1)*256^(7-k):=by rw[<-Nat.pow_add,show k+1+(7-k)=8 by omega];decide
 have e8:W64=256^8:=by decide
 rw[Nat.pow_add,Nat.pow_mul,<-e8,<-Nat.div_div_eq_div_mul]
 generalize n / W64^i=x
 rw[e,Nat.pow_succ,Nat.mul_assoc,Nat.mod_mul_right_div_self,Nat.mod_mul_right_mod]
def orB (l:List Nat):Nat:=l.foldl (fun x y=>x ||| y) 0
theorem orB_lt {l:List Nat} (h:Small l):orB l<256:=by
 have H:∀ (l:List Nat) (x:Nat),x<256->Small l->l.foldl (fun x y=>x ||| y) x<256:=by
  intro l
  induction l with
  | nil=>intro x hx _;exact hx
  | cons y l ih=>intro x hx hl;exact ih _ (Nat.or_lt_two_pow (n:=8) hx hl.head) hl.tail
 exact H l 0 (by decide) h
theorem orB_snoc (l:List Nat) (x:Nat):orB (l++[x])=orB l ||| x:=by simp[orB]
theorem orB_zero (l:List Nat):orB l=0↔∀ x∈l,x=0:=by
 have H:∀ (l:List Nat) (x:Nat),(l.foldl (fun x y=>x ||| y) x=0)↔(x=0/\∀ n∈l,n=0):=by
  intro l
  induction l with
  | nil=>intro x;simp
  | cons y l ih=>intro x;rw[List.foldl_cons,ih,Nat.or_eq_zero_iff];simp[and_assoc]
 unfold orB
 rw[H l 0]
 simp
end
section
open Go.RowKit

abbrev u8v (n:Nat):Value:=.int .u8 n
def ByBlk (w:World) (b:Nat) (T:TypeId) (xs:List Nat):Prop:=w.heap[b]?=some (.cells (xs.map u8v).toArray T (0,0))
theorem ByBlk.cell {w:World} {b:Nat} {T:TypeId} {xs:List Nat} (h:ByBlk w b T xs) {j x:Nat} (hj:xs[j]?=some x):w.cell? ⟨b,j,none⟩=some (u8v x):=by
 rw[cell_of_heap h,List.getElem?_toArray,List.getElem?_map,hj];rfl
theorem ByBlk.lt {w:World} {b:Nat} {T:TypeId} {xs:List Nat} (h:ByBlk w b T xs):b<w.heap.size:=heap_lt h
theorem ByBlk.off {w w':World} {b:Nat} {T:TypeId} {xs:List Nat} {S:Nat->Prop} (h:ByBlk w b T xs) (ho:Off S w w') (hb:¬S b):ByBlk w' b T xs:=ho.heap h hb
theorem ByBlk.frozen {w:World} {b:Nat} {T:TypeId} {xs:List Nat} (h:ByBlk w b T xs) (j:Nat):w.frozen? ⟨b,j,none⟩=false:=frozen_of_heap h j
theorem ByBlk.cells8 {w:World} {b:Nat} {T:TypeId} {ys:List Nat} (h:ByBlk w b T ys) {x0 x1 x2 x3 x4 x5 x6 x7:Nat} (e:ys=[x0,x1,x2,x3,x4,x5,x6,x7]) :
  w.cell? ⟨b,0,none⟩=some (u8v x0)/\w.cell? ⟨b,1,none⟩=some (u8v x1)/\w.cell? ⟨b,2,none⟩=some (u8v x2)/\w.cell? ⟨b,3,none⟩=some (u8v x3)/\w.cell? ⟨b,4,none⟩=some (u8v x4)/\w.cell? ⟨b,5,none⟩=some (u8v x5)/\w.cell? ⟨b,6,none⟩=some (u8v x6)/\w.cell? ⟨b,7,none⟩=some (u8v x7):=by
 subst e
 exact⟨h.cell rfl,h.cell rfl,h.cell rfl,h.cell rfl,h.cell rfl,h.cell rfl,h.cell rfl,h.cell rfl⟩
theorem ByBlk.store {w:World} {b:Nat} {T:TypeId} {xs:List Nat} (h:ByBlk w b T xs) (j v:Nat):ByBlk (w.setCell ⟨b,j,none⟩ (u8v v)) b T (xs.set j v):=by
 have:=heap_set h j (u8v v)
 unfold ByBlk
 rw[this]
 congr 2
 apply Array.ext'
 simp[List.map_set]
theorem ByBlk.copy {w:World} {b:Nat} {T:TypeId} {xs:List Nat} (h:ByBlk w b T xs) (o:Nat) (vs:List Nat) (ho:o+vs.length<=xs.length):ByBlk (w.setCells b o (vs.map u8v)) b T (xs.take o++vs++xs.drop (o+vs.length)):=by
 unfold ByBlk at h ⊢
 have e:xs.map u8v=(xs.take o).map u8v++((xs.drop o).take vs.length).map u8v++(xs.drop (o+vs.length)).map u8v:=by
  rw[<-List.map_append,<-List.map_append,List.append_assoc,<-List.drop_drop,List.take_append_drop,List.take_append_drop]
 rw[e]at h
 have:=setCells_mid (vs.map u8v) ((xs.take o).map u8v) (((xs.drop o).take vs.length).map u8v) ((xs.drop (o+vs.length)).map u8v) w o (by simp;omega) (by simp;omega) h
 rw[this]
 simp
def BsAt (w:World) (a:Option Addr) (bs:List Nat) (S:Nat->Prop):Prop :=
 0<bs.length->∃ b off,a=some ⟨b,off,none⟩/\S b/\∀ j x,bs[j]?=some x->w.cell? ⟨b,off+j,none⟩=some (u8v x)
theorem BsAt.off {w w':World} {a:Option Addr} {bs:List Nat} {S S':Nat->Prop} (h:BsAt w a bs S) (ho:Off S' w w') (hd:∀ k,k<w.heap.size->S k->¬S' k):BsAt w' a bs S:=fun hp=>by
 obtain⟨b,off,ha,hS,hc⟩:=h hp
 refine⟨b,off,ha,hS,fun j x hj=>?_⟩
 have:=hc j x hj
 exact ho.cell this (hd b (World.block_lt_of_cell? w _ this) hS)
theorem BsAt.mono {w:World} {a:Option Addr} {bs:List Nat} {S S':Nat->Prop} (h:BsAt w a bs S) (hs:∀ k,k<w.heap.size->S k->S' k):BsAt w a bs S':=fun hp=>by
 obtain⟨b,off,ha,hS,hc⟩:=h hp
 refine⟨b,off,ha,hs b ?_ hS,hc⟩
 exact World.block_lt_of_cell? w _ (hc 0 bs[0] (List.getElem?_eq_getElem hp))
theorem BsAt.of_blk {w:World} {b:Nat} {T:TypeId} {xs:List Nat} {S:Nat->Prop} (h:ByBlk w b T xs) (hS:S b):BsAt w (some ⟨b,0,none⟩) xs S:=fun _=>⟨b,0,rfl,hS,fun j x hj=>by rw[Nat.zero_add];exact h.cell hj⟩
theorem BsAt.nil (w:World) (a:Option Addr) (S:Nat->Prop):BsAt w a [] S:=fun h=>by simp at h
theorem BsAt.take {w:World} {a:Option Addr} {bs:List Nat} {S:Nat->Prop} (h:BsAt w a bs S) (k:Nat):BsAt w a (bs.take k) S:=fun hp=>by
 obtain⟨b,off,ha,hS,hc⟩:=h (by simp at hp;omega)
 refine⟨b,off,ha,hS,fun j x hj=>hc j x ?_⟩
 rw[List.getElem?_take]at hj
 split at hj
 ·exact hj
 simp at hj
def SvAt (w:World) (v:Value) (bs:List Nat):Prop:=∃ a n cap,v=.slice a n cap/\n=bs.length/\n<=cap/\BsAt w a bs (fun _=>True)
theorem SvAt.off {w w':World} {v:Value} {bs:List Nat} (h:SvAt w v bs) (ho:Off (fun _=>False) w w'):SvAt w' v bs:=by
 obtain⟨a,n,cap,h1,h2,h4,h3⟩:=h
 exact⟨a,n,cap,h1,h2,h4,h3.off ho (fun _ _ _ c=>c)⟩
theorem BsAt.bytesIn {w:World} {a:Option Addr} {bs:List Nat} {S:Nat->Prop} (h:BsAt w a bs S) {n:Nat} (hn:n=bs.length):Lib.BytesIn w a n (bs.map (fun x:Nat=>(x:Int))):=fun hp=>by
 subst hn
 obtain⟨b,off,ha,_,hc⟩:=h hp
 refine⟨b,off,ha,fun i hi=>?_⟩
 rw[hc i bs[i] (List.getElem?_eq_getElem hi)]
 simp[List.getElem?_eq_getElem hi]
theorem run_copy_bytes {T ty:TypeId} (hu:Tryz.prog.underlying T=some (.slice 5)) {w:World} {b o dLen dCap n c:Nat} {a:Option Addr} {bs xs:List Nat} {S:Nat->Prop} {TB:TypeId} (h:BsAt w a bs S) (hn:n=bs.length) (hb:ByBlk w b TB xs) (hd:n<=dLen) (ho:o+n<=xs.length) :
  (Builtin.copy_ #[T,T] ty #[.slice (some ⟨b,o,none⟩) dLen dCap,.slice a n c]).run Tryz.prog w=.ok (.int .i64 n) (w.setCells b o (bs.map u8v)):=by
 subst hn
 have hs:(Tryz.prog.info? 5).map (·.size)=some 1:=by kernel_rfl
 rcases Nat.eq_zero_or_pos bs.length with h0 | hp
 ·obtain rfl:bs=[]:=List.eq_nil_of_length_eq_zero h0
  exact run_copy_none (P:=Tryz.prog) w T T ty 5 _ a _ _ 0 c hu hs (by simp)
 obtain⟨b',off,rfl,_,hc⟩:=h hp
 have hr:=run_copy_cells (P:=Tryz.prog) w T T ty 5 b o dLen dCap ⟨b',off,none⟩ bs.length c (bs.map u8v) hu hs (by rw[List.length_map];exact(Nat.min_eq_left hd).symm)
  (fun j u hj=>by
   rw[List.getElem?_map]at hj
   obtain⟨x,hx,rfl⟩:=Option.map_eq_some_iff.1 hj
   rw[Addr.add_lit]
   exact hc j x hx)
  (fun j hj=>by
   rw[List.length_map]at hj
   rw[hb.cell (List.getElem?_eq_getElem (show o+j<xs.length by omega))];rfl)
  (fun j _=>hb.frozen _)
  (fun u hu'=>by obtain⟨x,_,rfl⟩:=List.mem_map.1 hu';rfl)
 rw[List.length_map]at hr
 exact hr
theorem copy_bytes {T:TypeId} (hu:Tryz.prog.underlying T=some (.slice 5)) {w:World} {b off dLen dCap n c:Nat} {a:Option Addr} {bs xs:List Nat} {S:Nat->Prop} {TB:TypeId} (h:BsAt w a bs S) (hn:n=bs.length) (hb:ByBlk w b TB xs) (hl:n<=dLen) (hx:off+n<=xs.length) :
  ∃ w1,(Builtin.copy_ #[T,T] 3 #[.slice (some ⟨b,off,none⟩) dLen dCap,.slice a n c]).run Tryz.prog w=.ok (.int .i64 n) w1/\ByBlk w1 b TB (xs.take off++bs++xs.drop (off+n))/\Off (fun j=>j=b) w w1:=by
 refine⟨_,run_copy_bytes hu h hn hb hl hx,?_,setCells_off b _ off w⟩
 subst hn
 exact hb.copy off bs hx
theorem byte_info:(Tryz.prog.info? 5).map (fun i=>(i.zero,i.size,i.bytes))=some (some (.int .u8 0),1,1):=by kernel_rfl
theorem run_make_by (n:Nat) (hn:n<=100000) (w:World):(Instr.makeSlice 40 (.int .i64 n) (.int .i64 n)).run Tryz.prog w=.ok (.slice (some ⟨w.heap.size,0,none⟩) n n) (w.alloc (.cells ((List.replicate n 0).map u8v).toArray 5)):=by
 obtain⟨i0,hi,hz0,hz1,hz2⟩:=info_parts byte_info
 have:=run_make (P:=Tryz.prog) w 40 5 i0 _ Tryz.underlying40 hi hz0 .i64 .i64 (n:Int) (n:Int) (by omega) (Int.le_refl _) (by rw[hz2];omega) (by omega)
 rw[hz1,show(Value.int .u8 0).cells=#[.int .u8 0] from rfl]at this
 have e:madeCells #[.int .u8 0] (n*1)=((List.replicate n 0).map u8v).toArray:=by
  apply Array.ext'
  apply List.ext_getElem?
  intro j
  by_cases hj:j<n
  ·simp[madeCells,hj,Nat.mod_one]
  rw[List.getElem?_eq_none (by simp[madeCells];omega),List.getElem?_eq_none (by simp;omega)]
 rw[<-e]
 simpa using this
theorem slice_lo (b o n cap k:Nat) (hk:k<=n) (hc:k≠cap) (W:World):(Instr.slice 40 (.slice (some ⟨b,o,none⟩) n cap) (some (.int .i64 k)) none none).run Tryz.prog W=.ok (.slice (some ⟨b,o+k,none⟩) (n-k) (cap-k)) W:=by
 have he:Tryz.prog.elem 40=5:=by simp[Program.elem,Tryz.underlying40]
 rw[run_slice_l W 40 _ _ _ (by rw[he];exact Tryz.underlying40) .i64 _ (by omega) (by omega),he,Tryz.sizeOf5]
 simp[Result.andThen,sliced,Addr.add_lit,Ne.symm hc]
theorem slice_hi (b o n cap k:Nat) (hk:k<=cap) (W:World):(Instr.slice 40 (.slice (some ⟨b,o,none⟩) n cap) none (some (.int .i64 k)) none).run Tryz.prog W=.ok (.slice (some ⟨b,o,none⟩) k cap) W:=by
 have he:Tryz.prog.elem 40=5:=by simp[Program.elem,Tryz.underlying40]
 rw[run_slice_h W 40 _ _ _ (by rw[he];exact Tryz.underlying40) .i64 _ (by omega) (by omega),he,Tryz.sizeOf5]
 simp[Result.andThen,sliced,Addr.add_lit]
/- bytes.Equal and bytes.HasPrefix at this seat's numbers. -/
def lays116_ren:Go.Shelf.Ren:=⟨fun | 115=>17 | n=>n,fun | 3=>3 | 4=>4 | 5=>5 | 9=>9 | 37=>40 | n=>n,fun n=>n⟩
theorem lays115:Go.Proofs.Lays.nb115 Tryz.prog lays116_ren:={
 mixed:=by kernel_rfl
 f115:=Tryz.func17.trans (congrArg some (by kernel_rfl))
 t4:=Tryz.underlying4
 a4:=Tryz.isAgg4
 z4:=Tryz.sizeOf4
 v4:=Tryz.zeroValue4
 t9:=Tryz.underlying9
 a9:=Tryz.isAgg9
 z9:=Tryz.sizeOf9
 v9:=Tryz.zeroValue9
 t37:=Tryz.underlying40
 a37:=Tryz.isAgg40
 z37:=Tryz.sizeOf40
 v37:=Tryz.zeroValue40
 t5:=Tryz.underlying5
 a5:=Tryz.isAgg5
 z5:=Tryz.sizeOf5
 v5:=Tryz.zeroValue5 }
theorem bequal_any {w:World} {a a':Option Addr} {n c n' c':Nat} {bs:List Nat} {S S':Nat->Prop} (h:BsAt w a bs S) (hn:n=bs.length) (h':BsAt w a' bs S') (hn':n'=bs.length) :
  Calls Tryz.prog 17 #[.slice a n c,.slice a' n' c'] w fun e w'=>e=.returned (.bool true)/\Off (fun _=>False) w w' :=
 (Any.bytes_Equal_all lays115 a a' n c n' c' _ _ w (by simp[hn]) (by simp[hn']) (h.bytesIn hn) (h'.bytesIn hn')).mono fun e w' ⟨he,hw⟩=>⟨he.trans (by simp),by rw[hw];exact Off.refl _ _⟩
end
section
open Go.RowKit
structure BofAt (w wr:World) (n k:Nat):Prop where
 ret:ByBlk wr w.heap.size 193 (List.replicate 8 0)
 buf:ByBlk wr (w.heap.size+1) 193 (bytesN n k++List.replicate (8-k) 0)
 off:Off (fun _=>False) w wr
theorem BofAt.step {w wr:World} {n k:Nat} (h:BofAt w wr n k) (hk:k<8):BofAt w (wr.setCell ⟨w.heap.size+1,k,none⟩ (u8v (by8 n k))) n (k+1):=by
 refine⟨(Below.heap_setCell _ _ _ _ (show w.heap.size≠w.heap.size+1 by omega)).trans h.ret,?_,h.off.setCell (fun c=>by simp at c;omega) _⟩
 have:=h.buf.store k (by8 n k)
 have e:(bytesN n k++List.replicate (8-k) 0).set k (by8 n k)=bytesN n (k+1)++List.replicate (8-(k+1)) 0:=by
  rw[List.set_append_right _ _ (by rw[bytesN_length];exact Nat.le_refl _),bytesN_length,Nat.sub_self,bytesN_succ,show 8-k=8-(k+1)+1 by omega,List.replicate_succ,List.set_cons_zero,List.append_assoc]
  rfl
 rwa [e]at this
set_option maxRecDepth 100000 in
set_option maxHeartbeats 4000000 in
theorem bytesof_any (n:Nat) (w:World):Calls Tryz.prog 145 #[.int .u64 n] w fun e w'=>e=.returned (.agg #[u8v (by8 n 0),u8v (by8 n 1),u8v (by8 n 2),u8v (by8 n 3),u8v (by8 n 4),u8v (by8 n 5),u8v (by8 n 6),u8v (by8 n 7)])/\Off (fun _=>False) w w':=by
 go_enter Tryz.func145,Tryz.ntmps145
 go_wp2
 go_loopw [5] (fun i wr=>∃ k:Nat,k<=8/\i=.int .i64 k/\BofAt w wr n k) (fun i _=>8-(intOf i).toNat)
 case atStart=>exact⟨0,by omega,rfl,⟨heap_old' (heap_new' rfl _) _,heap_new' (by simp) _,((Off.refl _ w).alloc _).alloc _⟩⟩
 case round =>
  obtain⟨k,hk,rfl,hA⟩:=hrel
  by_cases hlt:k<8
  ·have i1:decide ((k:Int)<8)=true:=by simp;omega
   have i2:(k:Int)<8:=by omega
   have cb:=hA.buf.cell (j:=k) (x:=0) (by rw[List.getElem?_append_right (by rw[bytesN_length];exact Nat.le_refl _),bytesN_length,Nat.sub_self];rw[show 8-k=8-(k+1)+1 by omega];rfl)
   have fz:=hA.buf.frozen k
   have lt:=hA.buf.lt
   have HS:=hid (hA.step hlt)
   have HV:=hid (show(n:Int) / 2^(8*k)%256=(by8 n k:Int) by unfold by8 dg;rw[show 256^k=2^(8*k) by rw[Nat.pow_mul]];norm_cast)
   clear hA
   go_wp2
   go_roundw
   case rel=>exact⟨k+1,by omega,by go_num,by rw[HV.out];exact HS.out⟩
   case measure=>simp[intOf];omega
  obtain rfl:k=8:=by omega
  obtain⟨c0,c1,c2,c3,c4,c5,c6,c7⟩:=hA.buf.cells8 (show _=[by8 n 0,by8 n 1,by8 n 2,by8 n 3,by8 n 4,by8 n 5,by8 n 6,by8 n 7] from rfl)
  obtain⟨r0,r1,r2,r3,r4,r5,r6,r7⟩:=hA.ret.cells8 (show _=[0,0,0,0,0,0,0,0] from rfl)
  have fz:=hA.ret.frozen
  have lt:=hA.ret.lt
  have HO:=hid hA.off
  clear hA
  go_wp2
  refine bodyPost_ret (v:=.agg #[u8v (by8 n 0),u8v (by8 n 1),u8v (by8 n 2),u8v (by8 n 3),u8v (by8 n 4),u8v (by8 n 5),u8v (by8 n 6),u8v (by8 n 7)]) (by simp[results,Tryz.results145,go_sem,r0,r1,r2,r3,r4,r5,r6,r7]) rfl ⟨rfl,?_⟩
  have hn:∀ j,(⟨w.heap.size,j,none⟩:Addr).block<w.heap.size->False:=fun j c=>by simp at c
  exact(((((((HO.out.setCell (hn 0) _).setCell (hn 1) _).setCell (hn 2) _).setCell (hn 3) _).setCell (hn 4) _).setCell (hn 5) _).setCell (hn 6) _).setCell (hn 7) _
end
end Go.Proofs.YtpfjgifcjengkaaGreatDoor
