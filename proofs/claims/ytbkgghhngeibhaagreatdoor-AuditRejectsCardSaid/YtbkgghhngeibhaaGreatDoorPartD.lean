/-
  Facts and contracts that some statements of layer 17 need.
-/
import Derived.Test.YtbkgghhngeibhaaGreatDoorAudSome
import Derived.Test.YtbkgghhngeibhaaGreatDoorBytAll
import Derived.Test.YtbkgghhngeibhaaGreatDoorBytLow
import Derived.Test.YtbkgghhngeibhaaGreatDoorRegn
import Derived.Test.YtbkgghhngeibhaaGreatDoorParGrp
import Derived.Test.YtbkgghhngeibhaaGreatDoorPolRefer
import Derived.Deep.Upon
namespace Go.Proofs.YtbkgghhngeibhaaGreatDoor
open Lib (hid)
section


def by8 (n i:Nat):Nat:=dg 256 n i
def Small (bs:List Nat):Prop:=∀ b∈bs,b<256
theorem by8_lt (n i:Nat):by8 n i<256:=dg_lt (by decide) n i
theorem Small.tail {b:Nat} {bs:List Nat} (h:Small (b::bs)):Small bs:=fun x hx=>h x (List.mem_cons_of_mem _ hx)
theorem Small.head {b:Nat} {bs:List Nat} (h:Small (b::bs)):b<256:=h b List.mem_cons_self
theorem Small.take {bs:List Nat} (h:Small bs) (k:Nat):Small (bs.take k):=fun x hx=>h x (List.mem_of_mem_take hx)
theorem Small.drop {bs:List Nat} (h:Small bs) (k:Nat):Small (bs.drop k):=fun x hx=>h x (List.mem_of_mem_drop hx)
theorem numB_lt:∀ {bs:List Nat},Small bs->numB bs<256^bs.length
 | [],_=>by simp[numB]
 | b::r,h=>by
  have h1:=numB_lt h.tail
  have h2:=h.head
  rw[List.length_cons,Nat.pow_succ]
  unfold numB
  omega
theorem numB_append:∀ a b:List Nat,numB (a++b)=numB a+256^a.length*numB b
 | [],b=>by simp[numB]
 | x::a,b=>by
  rw[List.cons_append,numB,numB,numB_append a b,List.length_cons,Nat.pow_succ,Nat.mul_add,Nat.mul_comm (256^a.length) 256,Nat.mul_assoc]
  omega
theorem numB_split (bs:List Nat) (k:Nat) (hk:k<=bs.length):numB bs=numB (bs.take k)+256^k*numB (bs.drop k):=by
 have h:=numB_append (bs.take k) (bs.drop k)
 rw[List.take_append_drop,List.length_take,Nat.min_eq_left hk]at h
 exact h
theorem dg_numB_zero {b:Nat} {r:List Nat} (hb:b<256):by8 (numB (b::r)) 0=b:=by
 unfold by8 dg numB
 rw[Nat.pow_zero,Nat.div_one,Nat.add_mul_mod_self_left,Nat.mod_eq_of_lt hb]
theorem dg_numB_succ {b:Nat} {r:List Nat} (hb:b<256) (i:Nat):by8 (numB (b::r)) (i+1)=by8 (numB r) i:=by
 show(b+256*numB r) / 256^(i+1)%256=numB r / 256^i%256
 rw[Nat.pow_succ,Nat.mul_comm (256^i) 256,<-Nat.div_div_eq_div_mul,Nat.add_mul_div_left _ _ (by decide:0<256),Nat.div_eq_of_lt hb,Nat.zero_add]
theorem by8_numB:∀ {bs:List Nat},Small bs->∀ {i b:Nat},bs[i]?=some b->by8 (numB bs) i=b
 | [],_,i,b,h=>by simp at h
 | x::r,hs,0,b,h=>by simp at h;subst h;exact dg_numB_zero hs.head
 | x::r,hs,i+1,b,h=>by rw[dg_numB_succ hs.head];exact by8_numB hs.tail (by simpa using h)
theorem r256_bytes:R256=256^32:=by decide +kernel
def lowB (n k i:Nat):Nat:=wd (n%256^k) i
theorem lowB_zero (n i:Nat):lowB n 0 i=0:=by unfold lowB wd dg;simp[Nat.mod_one]
theorem lowB_lt (n k i:Nat):lowB n k i<18446744073709551616:=wd_lt _ _
theorem w64_bytes (i:Nat):W64^i=256^(8*i):=by rw[Nat.pow_mul,show W64=256^8 by decide]
theorem lowB_succ (n k i:Nat):lowB n (k+1) i=lowB n k i+(if i=k / 8 then by8 n k*256^(k%8) else 0):=by
 have hm:=mod_succ 256 n k
 have hd:=by8_lt n k
 have hl:=Nat.mod_lt n (Nat.pow_pos (n:=k) (show 0<256 by decide))
 unfold lowB
 rw[hm,show dg 256 n k=by8 n k from rfl]
 generalize n%256^k=x at *
 generalize by8 n k=d at *
 clear hm
 by_cases h1:i=k / 8
 ·rw[if_pos h1]
  obtain⟨r,hr⟩:∃ r,r=k%8:=⟨_,rfl⟩
  have hk:k=8*i+r:=by omega
  rw[<-hr]
  have hrl:r<8:=by omega
  clear h1 hr
  subst hk
  unfold wd dg
  rw[w64_bytes]
  rw[Nat.pow_add]at hl ⊢
  have hq:x / 256^(8*i)<256^r:=Nat.div_lt_of_lt_mul hl
  rw[Nat.mul_assoc,Nat.add_mul_div_left _ _ (Nat.pow_pos (by decide))]
  generalize x / 256^(8*i)=q at *
  have h2:(256:Nat)^(r+1)<=256^8:=Nat.pow_le_pow_right (by decide) hrl
  have h3:q+256^r*d<256^(r+1):=by
   rw[Nat.pow_succ]
   have h4:256^r*d+256^r<=256^r*256:=by rw[<-Nat.mul_succ];exact Nat.mul_le_mul_left _ hd
   omega
  have h5:(256:Nat)^r<=256^8:=Nat.pow_le_pow_right (by decide) (by omega)
  have h8:W64=256^8:=by decide
  rw[h8,Nat.mod_eq_of_lt (Nat.lt_of_lt_of_le h3 h2),Nat.mod_eq_of_lt (Nat.lt_of_lt_of_le hq h5),Nat.mul_comm d]
 rw[if_neg h1,Nat.add_zero]
 rcases Nat.lt_or_ge i (k / 8) with h2 | h2
 ·have e:256^k*d=(256^(k-8*(i+1))*d)*W64^(i+1):=by
   rw[w64_bytes,Nat.mul_comm _ (256^(8*(i+1))),<-Nat.mul_assoc,<-Nat.pow_add,show 8*(i+1)+(k-8*(i+1))=k by omega]
  rw[e]
  exact dg_add_low w64_pos _ _ _ _ (by omega)
 have h3:(256:Nat)^(k+1)<=W64^i:=by rw[w64_bytes];exact Nat.pow_le_pow_right (by decide) (by omega)
 have h4:x+256^k*d<256^(k+1):=by
  rw[Nat.pow_succ]
  have h4:256^k*d+256^k<=256^k*256:=by rw[<-Nat.mul_succ];exact Nat.mul_le_mul_left _ hd
  omega
 unfold wd
 rw[dg_zero_of_lt (Nat.lt_of_lt_of_le h4 h3),dg_zero_of_lt (by omega)]
theorem lowB_sum (n k:Nat):lowB n k (k / 8)+by8 n k*256^(k%8)<18446744073709551616:=by
 have h:=lowB_succ n k (k / 8)
 rw[if_pos rfl]at h
 rw[<-h];exact lowB_lt _ _ _
end
section

def takeV (bs:List Nat) (n:Int):List Nat × Nat × List Nat:=if n<0 then([],2,bs) else if (bs.length:Int)<n then([],7,bs) else(bs.take n.toNat,0,bs.drop n.toNat)
theorem takeV_ok {bs:List Nat} {n:Nat} (h:n<=bs.length):takeV bs (n:Int)=(bs.take n,0,bs.drop n):=by
 unfold takeV;rw[if_neg (by omega),if_neg (by omega),Int.toNat_natCast]
theorem takeV_neg {bs:List Nat} {n:Int} (h:n<0):takeV bs n=([],2,bs):=by unfold takeV;rw[if_pos h]
theorem takeV_few {bs:List Nat} {n:Int} (h0:0<=n) (h:(bs.length:Int)<n):takeV bs n=([],7,bs):=by unfold takeV;rw[if_neg (by omega),if_pos h]
theorem elsK_succ (bs:List Nat) (k:Nat):elsK bs (k+1)=elsK bs k++[elB bs k]:=by simp[elsK,List.range_succ]
def elemsV (bs:List Nat) (n:Int):List Nat × Nat × List Nat:=if n<0 then([],2,bs) else if ((bs.length / 64:Nat):Int)<n then([],7,bs) else(elsK bs n.toNat,0,bs.drop (64*n.toNat))
theorem elemsV_ok {bs:List Nat} {n:Nat} (h:64*n<=bs.length):elemsV bs (n:Int)=(elsK bs n,0,bs.drop (64*n)):=by
 unfold elemsV;rw[if_neg (by omega),if_neg (by omega),Int.toNat_natCast]
theorem elemsV_neg {bs:List Nat} {n:Int} (h:n<0):elemsV bs n=([],2,bs):=by unfold elemsV;rw[if_pos h]
theorem elemsV_few {bs:List Nat} {n:Int} (h0:0<=n) (h:((bs.length / 64:Nat):Int)<n):elemsV bs n=([],7,bs):=by unfold elemsV;rw[if_neg (by omega),if_pos h]
end
section


theorem flat4_length:∀ l:List Nat,(flat4 l).length=l.length*4
 | []=>rfl
 | _::r=>by simp only[flat4,List.length_cons,flat4_length r];omega
end
section
open Go.RowKit

abbrev u8v (n:Nat):Value:=.int .u8 n
def BsAt (w:World) (a:Option Addr) (bs:List Nat) (S:Nat->Prop):Prop :=
 0<bs.length->∃ b off,a=some ⟨b,off,none⟩/\S b/\∀ j x,bs[j]?=some x->w.cell? ⟨b,off+j,none⟩=some (u8v x)
theorem BsAt.off {w w':World} {a:Option Addr} {bs:List Nat} {S S':Nat->Prop} (h:BsAt w a bs S) (ho:Off S' w w') (hd:∀ k,k<w.heap.size->S k->¬S' k):BsAt w' a bs S:=fun hp=>by
 obtain⟨b,off,ha,hS,hc⟩:=h hp
 refine⟨b,off,ha,hS,fun j x hj=>?_⟩
 have:=hc j x hj
 exact ho.cell this (hd b (World.block_lt_of_cell? w _ this) hS)
theorem BsAt.mono {w:World} {a:Option Addr} {bs:List Nat} {S S':Nat->Prop} (h:BsAt w a bs S) (hs:∀ k,k<w.heap.size->S k->S' k):BsAt w a bs S':=fun hp=>by
 obtain⟨b,off,ha,hS,hc⟩:=h hp
 refine⟨b,off,ha,hs b ?_ hS,hc⟩
 exact World.block_lt_of_cell? w _ (hc 0 bs[0] (List.getElem?_eq_getElem hp))
theorem BsAt.old {w:World} {a:Option Addr} {bs:List Nat} {S:Nat->Prop} (h:BsAt w a bs S):BsAt w a bs (fun k=>k<w.heap.size):=h.mono fun _ hk _=>hk
theorem BsAt.later {w w':World} {a:Option Addr} {bs:List Nat} {S:Nat->Prop} (h:BsAt w a bs S) (ho:Off (fun k=>w.heap.size<=k) w w'):BsAt w' a bs (fun k=>k<w.heap.size):=h.old.off ho (fun _ h1 _ h3=>absurd h1 (Nat.not_lt.2 h3))
theorem BsAt.nil (w:World) (a:Option Addr) (S:Nat->Prop):BsAt w a [] S:=fun h=>by simp at h
theorem BsAt.take {w:World} {a:Option Addr} {bs:List Nat} {S:Nat->Prop} (h:BsAt w a bs S) (k:Nat):BsAt w a (bs.take k) S:=fun hp=>by
 obtain⟨b,off,ha,hS,hc⟩:=h (by simp at hp;omega)
 refine⟨b,off,ha,hS,fun j x hj=>hc j x ?_⟩
 rw[List.getElem?_take]at hj
 split at hj
 ·exact hj
 simp at hj
theorem BsAt.drop {w:World} {b off:Nat} {bs:List Nat} {S:Nat->Prop} (h:BsAt w (some ⟨b,off,none⟩) bs S) (k:Nat):BsAt w (some ⟨b,off+k,none⟩) (bs.drop k) S:=fun hp=>by
 obtain⟨b',off',ha,hS,hc⟩:=h (by simp at hp;omega)
 simp at ha
 obtain⟨rfl,rfl⟩:=ha
 refine⟨_,_,rfl,hS,fun j x hj=>?_⟩
 rw[List.getElem?_drop]at hj
 have:=hc _ x hj
 rwa [<-Nat.add_assoc]at this
theorem slice_lo (b o n cap k:Nat) (hk:k<=n) (hc:k≠cap) (W:World):(Instr.slice 52 (.slice (some ⟨b,o,none⟩) n cap) (some (.int .i64 k)) none none).run Tryz.prog W=.ok (.slice (some ⟨b,o+k,none⟩) (n-k) (cap-k)) W:=by
 have he:Tryz.prog.elem 52=5:=by simp[Program.elem,Tryz.underlying52]
 rw[run_slice_l W 52 _ _ _ (by rw[he];exact Tryz.underlying52) .i64 _ (by omega) (by omega),he,Tryz.sizeOf5]
 simp[Result.andThen,sliced,Addr.add_lit,Ne.symm hc]
theorem slice_hi (b o n cap k:Nat) (hk:k<=cap) (W:World):(Instr.slice 52 (.slice (some ⟨b,o,none⟩) n cap) none (some (.int .i64 k)) none).run Tryz.prog W=.ok (.slice (some ⟨b,o,none⟩) k cap) W:=by
 have he:Tryz.prog.elem 52=5:=by simp[Program.elem,Tryz.underlying52]
 rw[run_slice_h W 52 _ _ _ (by rw[he];exact Tryz.underlying52) .i64 _ (by omega) (by omega),he,Tryz.sizeOf5]
 simp[Result.andThen,sliced,Addr.add_lit]
/- bytes.Equal and bytes.HasPrefix at this seat's numbers. -/
end
section
open Go.RowKit Go.ChangeShapes Go.WideShapes Go.ChangeAt Go.Deep
theorem cells_byte:Tryz.prog.cellsOf 5=1:=by kernel_rfl
set_option maxRecDepth 100000 in
theorem bytes_of_trod {H:Type} {enc:TypeId × Value->H} {w:World} {spare:Nat->Bool} {held:Bool} {a:Option Addr} {len cap fuel:Nat} {x:DataW H × List MemPlace}
  (h:DataW.trod enc Tryz.prog w 0 spare held fuel 52 [.slice a len cap]=some x):∃ xs,len=xs.length/\len<=cap/\Small xs/\BsAt w a xs (fun k=>k<w.heap.size):=by
 rcases open_slice Tryz.underlying52 h with ⟨hcs,_⟩ | ⟨b,l,c,m,n,D,Pl,hcs,_,hl,hm,hmm,_,hi⟩
 ·simp at hcs
  obtain⟨rfl,rfl,rfl⟩:=hcs
  exact⟨[],rfl,Nat.le_refl _,fun _ h=>(by cases h),BsAt.nil _ _ _⟩
 simp at hcs
 obtain⟨rfl,rfl,rfl⟩:=hcs
 have hlm:len<=m:=by rw[hmm];split <;> omega
 have H:∀ i,i<len->∃ e:Nat,e<256/\w.cell? (b.add i)=some (.int .u8 e):=by
  intro i hil
  obtain⟨cs',hc,ht⟩:=hi i (by omega)
  rw[cells_byte]at hc
  obtain⟨_,hlen,hat⟩:=World.cells?_some hc
  match cs',hlen with
  | [v0],_ =>
   obtain⟨n0,e0,_,q0⟩:=DataW.trod_int Tryz.underlying5 ht
   simp at e0
   subst e0
   have hb:=bounds_u8 q0
   obtain⟨e,rfl⟩:=Int.eq_ofNat_of_zero_le hb.1
   refine⟨e,by have:=hb.2;omega,?_⟩
   have:=hat 0 (by omega);simpa[go_sem]using this
 obtain⟨f,hf⟩:∃ f:Nat->Nat,∀ i,i<len->f i<256/\w.cell? (b.add i)=some (.int .u8 (f i:Int)):=by
  refine⟨fun i=>if h:i<len then(H i h).choose else 0,fun i h=>?_⟩
  simp only[h,dif_pos]
  exact(H i h).choose_spec
 refine⟨(List.range len).map f,by simp,by omega,fun x hx=>?_,fun hp=>?_⟩
 ·obtain⟨i,hi',rfl⟩:=List.mem_map.1 hx
  exact(hf i (List.mem_range.1 hi')).1
 have hp':0<len:=by simpa using hp
 obtain⟨bb,off,spot⟩:=b
 have hspot:spot=none:=by simpa[Addr.add]using World.cell?_spot (hf 0 hp').2
 subst hspot
 refine⟨bb,off,rfl,?_,fun j e hj=>?_⟩
 ·have:=(hf 0 hp').2
  rw[Addr.add_lit]at this
  exact World.block_lt_of_cell? w ⟨bb,off+0,none⟩ this
 rw[List.getElem?_map]at hj
 obtain⟨i,hi',rfl⟩:=Option.map_eq_some_iff.1 hj
 have hjl:=(List.getElem?_eq_some_iff.1 hi').1
 have:i=j:=by
  have h2:=(List.getElem?_eq_some_iff.1 hi').2
  simpa using h2.symm
 subst this
 have hil:i<len:=by simpa using hjl
 have c0:=(hf i hil).2
 rw[Addr.add_lit]at c0
 exact c0
end
section
open Go.RowKit
set_option maxRecDepth 100000
set_option maxHeartbeats 4000000
theorem byte_elem:Tryz.prog.elem 52=5:=by simp[Program.elem,Tryz.underlying52]
theorem BsAt.from {W:World} {a:Option Addr} {bs:List Nat} {S:Nat->Prop} (h:BsAt W a bs S) (lo cap:Nat) (hc:bs.length<=cap):BsAt W (if cap=lo then a else a.map (·.add (lo*1))) (bs.drop lo) S:=by
 intro hp
 rw[List.length_drop]at hp
 obtain⟨b,o,rfl,hS,hx⟩:=h (by omega)
 rw[if_neg (by omega)]
 refine⟨b,o+lo,by simp[Addr.add_lit],hS,fun j x hj=>?_⟩
 rw[List.getElem?_drop]at hj
 rw[Nat.add_assoc]
 exact hx _ x hj
theorem part_h (a:Option Addr) (n cap k:Nat) (bs:List Nat) (hn:n=bs.length) (hk:k<=n) (hc:n<=cap):∃ a',(∀ W,(Instr.slice 52 (.slice a n cap) none (some (.int .i64 k)) none).run Tryz.prog W=.ok (.slice a' k cap) W)/\∀ W S,BsAt W a bs S->BsAt W a' (bs.take k) S:=by
 refine⟨if cap=0 then a else a.map (·.add (0*1)),fun W=>?_,fun W S h=>?_⟩
 ·rw[run_slice_h W 52 _ _ _ (by rw[byte_elem];exact Tryz.underlying52) .i64 _ (by omega) (by omega),byte_elem,Tryz.sizeOf5]
  simp only[Result.andThen,sliced,Int.toNat_natCast,Nat.sub_zero]
 have:=(h.from 0 cap (by omega)).take k
 rw[List.drop_zero]at this
 exact this
theorem part_l (a:Option Addr) (n cap k:Nat) (bs:List Nat) (hn:n=bs.length) (hk:k<=n) (hc:n<=cap):∃ a',(∀ W,(Instr.slice 52 (.slice a n cap) (some (.int .i64 k)) none none).run Tryz.prog W=.ok (.slice a' (n-k) (cap-k)) W)/\∀ W S,BsAt W a bs S->BsAt W a' (bs.drop k) S:=by
 refine⟨if cap=k then a else a.map (·.add (k*1)),fun W=>?_,fun W S h=>h.from k cap (by omega)⟩
 rw[run_slice_l W 52 _ _ _ (by rw[byte_elem];exact Tryz.underlying52) .i64 _ (by omega) (by omega),byte_elem,Tryz.sizeOf5]
 simp only[Result.andThen,sliced,Int.toNat_natCast]
theorem part_lh (a:Option Addr) (n cap i k:Nat) (bs:List Nat) (hn:n=bs.length) (hi:i<=k) (hk:k<=n) (hc:n<=cap):∃ a',(∀ W,(Instr.slice 52 (.slice a n cap) (some (.int .i64 i)) (some (.int .i64 k)) none).run Tryz.prog W=.ok (.slice a' (k-i) (cap-i)) W)/\∀ W S,BsAt W a bs S->BsAt W a' ((bs.drop i).take (k-i)) S:=by
 refine⟨if cap=i then a else a.map (·.add (i*1)),fun W=>?_,fun W S h=>(h.from i cap (by omega)).take (k-i)⟩
 rw[run_slice_lh W 52 _ _ _ (by rw[byte_elem];exact Tryz.underlying52) .i64 .i64 _ _ (by omega) (by omega) (by omega),byte_elem,Tryz.sizeOf5]
 simp only[Result.andThen,sliced,Int.toNat_natCast]
end
section
open Go.RowKit
attribute [local go_sem ↓] Go.wp_at_zero Go.wp_at_succ
theorem numB_r256 {bs:List Nat} (hs:Small bs) (h:bs.length<=32):numB bs<R256:=by
 rw[r256_bytes]
 exact Nat.lt_of_lt_of_le (numB_lt hs) (Nat.pow_le_pow_right (by decide) h)
end
section
open Go.RowKit
def LowBAt (w:World) (b n k:Nat):Prop:=w.heap[b]?=some (.cells #[.int .u64 (lowB n k 0:Int),.int .u64 (lowB n k 1:Int),.int .u64 (lowB n k 2:Int),.int .u64 (lowB n k 3:Int)] 63 (0,0))
theorem LowBAt.cell {w:World} {b n k:Nat} (h:LowBAt w b n k) (i:Nat) (hi:i<4):w.cell? ⟨b,i,none⟩=some (.int .u64 (lowB n k i:Int)):=by
 rw[cell_of_heap h]
 have:i=0\/i=1\/i=2\/i=3:=by omega
 rcases this with rfl | rfl | rfl | rfl <;> rfl
theorem LowBAt.step {w:World} {b n k:Nat} (h:LowBAt w b n k) (hk:k<32):LowBAt (w.setCell ⟨b,k / 8,none⟩ (.int .u64 (lowB n (k+1) (k / 8):Int))) b n (k+1):=by
 have:=heap_set h (k / 8) (.int .u64 (lowB n (k+1) (k / 8):Int))
 unfold LowBAt
 rw[this]
 have e:∀ i,i≠k / 8->lowB n (k+1) i=lowB n k i:=fun i hne=>by rw[lowB_succ n k i,if_neg hne];rfl
 have:k / 8=0\/k / 8=1\/k / 8=2\/k / 8=3:=by omega
 rcases this with h4 | h4 | h4 | h4 <;> rw[h4]at e ⊢
 ·simp[e 1 (by omega),e 2 (by omega),e 3 (by omega)]
 ·simp[e 0 (by omega),e 2 (by omega),e 3 (by omega)]
 ·simp[e 0 (by omega),e 1 (by omega),e 3 (by omega)]
 simp[e 0 (by omega),e 1 (by omega),e 2 (by omega)]
attribute [local go_sem ↓] Go.wp_at_zero Go.wp_at_succ
set_option maxRecDepth 100000 in
set_option maxHeartbeats 4000000 in
theorem refnumber_any (a:Option Addr) (n cap:Nat) (bs:List Nat) (S:Nat->Prop) (w:World) (hb:BsAt w a bs S) (hn:n=bs.length) (hs:Small bs) (h32:n<=32) :
  Calls Tryz.prog 98 #[.slice a n cap] w fun e w'=>e=.returned (V (numB bs))/\Off (fun _=>False) w w':=by
 obtain⟨N,hN⟩:∃ N,N=numB bs:=⟨_,rfl⟩
 have HB:=hid (fun(W:World) (h:Off (fun _=>False) w W) (k:Nat) (hk:k<n)=>show ∃ b off,a=some ⟨b,off,none⟩/\W.cell? ⟨b,off+k,none⟩=some (.int .u8 (by8 N k:Int)) by
  obtain⟨b,off,ha,_,hc⟩:=hb (by omega)
  have h1:=hc k (bs[k]'(by omega)) (List.getElem?_eq_getElem _)
  have h2:=by8_numB hs (List.getElem?_eq_getElem (show k<bs.length by omega))
  exact⟨b,off,ha,by rw[hN,h2];exact h.cell h1 (fun c=>c)⟩)
 have HF:=hid (fun i=>show lowB N n i=wd N i by unfold lowB;rw[hN,hn,Nat.mod_eq_of_lt (numB_lt hs)])
 rw[<-hN]
 clear hb hn hs hN
 go_enter Tryz.func98,Tryz.ntmps98
 go_wp2
 go_loopw [4] (fun i wr=>∃ k:Nat,k<=n/\i=.int .i64 k/\LowBAt wr (w.heap.size+1) N k/\PartAt wr w.heap.size 0 0/\Off (fun _=>False) w wr) (fun i _=>n-(intOf i).toNat)
 case atStart=>exact⟨0,by omega,rfl,by unfold LowBAt;simp only[lowB_zero];exact heap_new' (by simp) _,heap_old' (heap_new' rfl _) _,((Off.refl _ w).alloc _).alloc _⟩
 case round =>
  obtain⟨k,hk,rfl,hL,hP,hO⟩:=hrel
  by_cases hlt:k<n
  ·have i1:decide ((k:Int)<(n:Int))=true:=by simp;omega
   have i2:decide ((k:Int)<32)=true:=by simp;omega
   have i3:(k:Int)<(n:Int):=by omega
   have i4:(k:Int)<32:=by omega
   have HL:=hid hL
   have HP:=hid hP
   have HO:=hid hO
   clear hL hP hO
   go_wp2
   go_loop [5,6] (fun u i=>∃ j:Nat,j<=k%8/\i=.int .i64 j/\u=.int .u64 ((256^j:Nat):Int)) (fun _ i=>k%8-(intOf i).toNat)
   case atStart=>exact⟨0,by omega,rfl,rfl⟩
   case round =>
    obtain⟨j,hj,rfl,rfl⟩:=hrel
    by_cases hlt2:j<k%8
    ·have j1:(j:Int)<(k:Int)%8:=by omega
     have HU:=hid (Nat.pow_succ (n:=256) (m:=j))
     have hu:256^j<=256^6:=Nat.pow_le_pow_right (by omega) (by omega)
     have hu0:0<256^j:=Nat.pow_pos (by omega)
     obtain⟨u,hu2⟩:∃ u,u=256^j:=⟨_,rfl⟩
     rw[<-hu2]at HU hu hu0 ⊢
     obtain⟨v,hv⟩:∃ v,v=u*256:=⟨_,rfl⟩
     have v0:IntKind.u64.wrap ((u:Int)*256)=(v:Int):=by simp at hu;rw[IntKind.wrap_u64];omega
     rw[<-hv]at HU
     clear hu2 hu hu0 hv
     go_wp2
     go_round
     case rel=>exact⟨j+1,by omega,by go_num,by rw[HU.out]⟩
     case measure=>simp[intOf];omega
    obtain rfl:j=k%8:=by omega
    have j1:¬((k%8:Nat):Int)<(k:Int)%8:=by omega
    obtain⟨q,hq⟩:∃ q,q=k / 8:=⟨_,rfl⟩
    have co:=HL.out.cell q (by omega)
    have q0:(k:Int) / 8=(q:Int):=by omega
    have q1:(q:Int)<4:=by omega
    have q2:(0:Int)<=(q:Int):=by omega
    obtain⟨bb,off,rfl,cd⟩:=HB.out wr HO.out k hlt
    have hd:=by8_lt N k
    have hsum:=lowB_sum N k
    have hnext:=lowB_succ N k q
    rw[if_pos hq]at hnext
    rw[<-hq]at hsum
    have ffz:=frozen_of_heap HL.out q
    have hu:256^(k%8)<=256^7:=Nat.pow_le_pow_right (by omega) (by omega)
    obtain⟨u,hu2⟩:∃ u,u=256^(k%8):=⟨_,rfl⟩
    rw[<-hu2]at hnext hsum hu ⊢
    obtain⟨d,hd2⟩:∃ d,d=by8 N k:=⟨_,rfl⟩
    rw[<-hd2]at cd hd hnext hsum
    obtain⟨l,hl2⟩:∃ l,l=lowB N k q:=⟨_,rfl⟩
    rw[<-hl2]at co hnext hsum
    obtain⟨m,hm⟩:∃ m,m=d*u:=⟨_,rfl⟩
    rw[<-hm]at hnext hsum
    obtain⟨t,ht⟩:∃ t,t=l+m:=⟨_,rfl⟩
    rw[<-ht]at hnext hsum
    have m0:IntKind.u64.wrap ((d:Int)*(u:Int))=(m:Int):=by rw[IntKind.wrap_u64];omega
    have t0:IntKind.u64.wrap ((l:Int)+(m:Int))=(t:Int):=by rw[IntKind.wrap_u64];omega
    have c0:IntKind.u64.wrap (d:Int)=(d:Int):=by rw[IntKind.wrap_u64];omega
    have HT:=hid hnext
    have q3:(k:Int).tdiv 8=(q:Int):=by rw[Int.tdiv_eq_ediv_of_nonneg (by omega)];exact q0
    have HQ:=hid hq
    have q4:IntKind.i64.wrap (q:Int)=(q:Int):=IntWalk.i64_in _ (by omega)
    clear hnext hsum hu hu2 hd2 hl2 hm ht hq
    go_wp2
    go_still_tail 13,(by kernel_rfl)
    change wpList _ _ _ _ _ wr.drew
    go_wp2
    go_roundw
    case rel=>exact⟨k+1,by omega,by go_num,by rw[<-HT.out,HQ.out];exact HL.out.step (by omega),(Below.heap_setCell _ _ _ _ (by simp)).trans HP.out,(HO.out.setCell (fun c=>by simp at c;omega) _).drew⟩
    case measure=>simp[intOf];omega
  obtain rfl:k=n:=by omega
  have c0:=hL.cell 0 (by omega)
  have c1:=hL.cell 1 (by omega)
  have c2:=hL.cell 2 (by omega)
  have c3:=hL.cell 3 (by omega)
  rw[HF.out]at c0 c1 c2 c3
  have fz:=fun k=>frozen_of_heap hP.old k
  have r0:=hP.cell0 0 (by omega)
  have r1:=hP.cell0 1 (by omega)
  have r2:=hP.cell0 2 (by omega)
  have r3:=hP.cell0 3 (by omega)
  have HO:=hid hO
  clear hL hP hO
  go_wp2
  refine bodyPost_ret (v:=V N) (by simp[results,Tryz.results98,go_sem,r0,r1,r2,r3]) rfl ⟨rfl,?_⟩
  have hn:∀ j,(⟨w.heap.size,j,none⟩:Addr).block<w.heap.size->False:=fun j c=>by simp at c
  exact(((HO.out.setCell (hn 0) _).setCell (hn 1) _).setCell (hn 2) _).setCell (hn 3) _
end
section

def chkN (n i:Nat):Nat:=min 31 (n-31*i)
theorem chk_len (bs:List Nat) (i:Nat):(chk bs i).length=chkN bs.length i:=by unfold chk chkN;simp
theorem chkN_le (n i:Nat):chkN n i<=31:=Nat.min_le_left _ _
theorem cntN_step {n i:Nat} (h:31*i<n):i<cntN n:=by unfold cntN;omega
theorem cntN_end {n i:Nat} (h:n<=31*i):cntN n<=i:=by unfold cntN;omega
theorem chk_small {bs:List Nat} (h:Small bs) (i:Nat):Small (chk bs i):=(h.drop _).take _
def splitK (bs:List Nat) (k:Nat):List Nat:=(List.range k).map fun i=>numB (chk bs i)
def splitV (bs:List Nat):List Nat:=splitK bs (cntN bs.length)
theorem splitK_succ (bs:List Nat) (k:Nat):splitK bs (k+1)=splitK bs k++[numB (chk bs k)]:=by simp[splitK,List.range_succ]
theorem splitK_length (bs:List Nat) (k:Nat):(splitK bs k).length=k:=by simp[splitK]
theorem splitK_get (bs:List Nat) {k i:Nat} (h:i<k):(splitK bs k)[i]?=some (numB (chk bs i)):=by simp[splitK,h]
theorem splitV_length (bs:List Nat):(splitV bs).length=cntN bs.length:=splitK_length _ _
theorem chk_num_lt {bs:List Nat} (h:Small bs) (i:Nat):numB (chk bs i)<256^31 :=
 Nat.lt_of_lt_of_le (numB_lt (chk_small h i)) (Nat.pow_le_pow_right (by decide) (by rw[chk_len];exact chkN_le _ _))
end
section

def LLsAt (w:World) (v:Value) (yss:List (List Nat)) (S:Nat->Prop):Prop :=
 ∃ a cap,v=.slice a yss.length cap/\yss.length<=1000/\(0<yss.length->∃ b off,a=some ⟨b,off,none⟩/\S b/\∀ j ys,yss[j]?=some ys->∃ u,w.cell? ⟨b,off+j,none⟩=some u/\LsAt w u ys S)
theorem LLsAt.off {w w':World} {v:Value} {yss:List (List Nat)} {S S':Nat->Prop} (h:LLsAt w v yss S) (ho:Off S' w w') (hd:∀ k,k<w.heap.size->S k->¬S' k):LLsAt w' v yss S:=by
 obtain⟨a,cap,hv,h1,h4⟩:=h
 refine⟨a,cap,hv,h1,fun hp=>?_⟩
 obtain⟨b,off,ha,hS,hc⟩:=h4 hp
 refine⟨b,off,ha,hS,fun j ys hj=>?_⟩
 obtain⟨u,h2,h3⟩:=hc j ys hj
 exact⟨u,ho.cell h2 (hd b (World.block_lt_of_cell? w _ h2) hS),h3.off ho hd⟩
theorem LLsAt.get {w:World} {a:Option Addr} {m cap:Nat} {yss:List (List Nat)} {S:Nat->Prop} (h:LLsAt w (.slice a m cap) yss S) {j:Nat} {ys:List Nat} (hj:yss[j]?=some ys) :
  ∃ b off a1 c1,a=some ⟨b,off,none⟩/\S b/\w.cell? ⟨b,off+j,none⟩=some (.slice a1 ys.length c1)/\LsAt w (.slice a1 ys.length c1) ys S:=by
 obtain⟨a',cap',e,_,h4⟩:=h
 simp at e
 obtain⟨rfl,rfl,rfl⟩:=e
 obtain⟨b,off,ha,hS,hc⟩:=h4 (by have:=(List.getElem?_eq_some_iff.1 hj).1;omega)
 obtain⟨u,h2,h3⟩:=hc j ys hj
 obtain⟨a1,c1,rfl,_⟩:=id h3
 exact⟨b,off,a1,c1,ha,hS,h2,h3⟩
def LLs (w:World) (v:Value) (yss:List (List Nat)):Prop:=LLsAt w v yss (fun _=>True)
theorem LLs.off {w w':World} {v:Value} {yss:List (List Nat)} (h:LLs w v yss) (ho:Off (fun _=>False) w w'):LLs w' v yss:=LLsAt.off h ho (fun _ _ _ c=>c)
theorem LLs.nil (w:World):LLs w (.slice none 0 0) []:=⟨none,0,rfl,Nat.zero_le _,fun h=>by simp at h⟩
end
section
open Go.RowKit
attribute [local go_sem ↓] Go.wp_at_zero Go.wp_at_succ
def rwideV (p:Nat) (bs:List Nat):Nat × Nat:=if bs.length=64 then(numB bs%p,0) else(0,8)
theorem rwide_val {p:Nat} {bs:List Nat} (hl:bs.length=64):(numB (bs.take 32)%p+radV p 256*(numB (bs.drop 32)%p)%p)%p=numB bs%p:=by
 have h1:=numB_split bs 32 (by omega)
 unfold radV
 rw[h1,<-r256_bytes,<-Nat.mul_mod,<-Nat.add_mod]
set_option maxRecDepth 100000 in
set_option maxHeartbeats 4000000 in
theorem refwide_any (p:Nat) (hp:p<R256) (h1:1<p) (a:Option Addr) (n cap:Nat) (bs:List Nat) (S:Nat->Prop) (w:World) (hb:BsAt w a bs S) (hn:n=bs.length) (hs:Small bs) (hcap:n<=cap) :
  Calls Tryz.prog 100 #[V p,.slice a n cap] w fun e w'=>e=.returned (.tuple #[V (rwideV p bs).1,.int .i64 ((rwideV p bs).2:Int)])/\Off (fun _=>False) w w':=by
 by_cases h64:n=64
 ·obtain⟨bb,off,rfl,hSb,hcell⟩:=hb (by omega)
  have hlo:=numB_r256 (hs.take 32) (by simp;omega)
  have hhi:=numB_r256 (hs.drop 32) (by simp;omega)
  have hb0:BsAt w (some ⟨bb,off,none⟩) bs (fun _=>True):=fun _=>⟨bb,off,rfl,trivial,hcell⟩
  have HN1:=hid (fun W (h:Off (fun k=>w.heap.size<=k) w W)=>refnumber_any (some ⟨bb,off,none⟩) 32 cap (bs.take 32) _ W ((hb0.later h).take 32) (by simp;omega) (hs.take 32) (by omega))
  have HN2:=hid (fun W (h:Off (fun k=>w.heap.size<=k) w W)=>refnumber_any (some ⟨bb,off+32,none⟩) 32 (cap-32) (bs.drop 32) _ W ((hb0.later h).drop 32) (by simp;omega) (hs.drop 32) (by omega))
  have hs1:∀ W,(Instr.slice 52 (.slice (some ⟨bb,off,none⟩) 64 cap) none (some (.int .i64 32)) none).run Tryz.prog W=.ok (.slice (some ⟨bb,off,none⟩) 32 cap) W:=fun W=>slice_hi bb off 64 cap 32 (by omega) W
  have hs2:∀ W,(Instr.slice 52 (.slice (some ⟨bb,off,none⟩) 64 cap) (some (.int .i64 32)) none none).run Tryz.prog W=.ok (.slice (some ⟨bb,off+32,none⟩) 32 (cap-32)) W:=fun W=>slice_lo bb off 64 cap 32 (by omega) (by omega) W
  have hs3:(32:Int)<=(cap:Int):=by omega
  have hs4:cap≠32:=by omega
  have hv:=rwide_val (p:=p) (show bs.length=64 by omega)
  have hd:rwideV p bs=(numB bs%p,0):=by unfold rwideV;rw[if_pos (by omega)]
  rw[hd,<-hv]
  obtain⟨lo,hlo2⟩:∃ lo,lo=numB (bs.take 32):=⟨_,rfl⟩
  obtain⟨hi,hhi2⟩:∃ hi,hi=numB (bs.drop 32):=⟨_,rfl⟩
  rw[<-hlo2]at HN1 hlo ⊢
  rw[<-hhi2]at HN2 hhi ⊢
  have hT1:=fun W=>mod_mod p lo hp h1 hlo W
  have hT2:=fun W=>mod_mod p hi hp h1 hhi W
  have hX:=fun W=>mod_radix p hp h1 W
  obtain⟨y,hy⟩:∃ y,y=lo%p:=⟨_,rfl⟩
  obtain⟨z,hz⟩:∃ z,z=hi%p:=⟨_,rfl⟩
  obtain⟨d,hdd⟩:∃ d,d=radV p 256:=⟨_,rfl⟩
  have hyp:y<p:=by rw[hy];exact Nat.mod_lt _ (by omega)
  have hzp:z<p:=by rw[hz];exact Nat.mod_lt _ (by omega)
  have hdp:d<p:=by rw[hdd];exact Nat.mod_lt _ (by omega)
  rw[<-hy]at hT1 ⊢
  rw[<-hz]at hT2 ⊢
  rw[<-hdd]at hX ⊢
  have hM:=fun W=>mod_mul p d z hp h1 hdp (by omega) W
  have hmz:d*z%p<p:=Nat.mod_lt _ (by omega)
  obtain⟨m,hm⟩:∃ m,m=d*z%p:=⟨_,rfl⟩
  rw[<-hm]at hM hmz ⊢
  have hA:=fun W=>mod_add p y m hp hyp hmz W
  obtain⟨x,hx⟩:∃ x,x=(y+m)%p:=⟨_,rfl⟩
  rw[<-hx]at hA ⊢
  have HT1:=hid hT1
  have HT2:=hid hT2
  have HX:=hid hX
  have HM:=hid hM
  have HA:=hid hA
  clear hT1 hT2 hX hM hA hb0 hcell hSb hb hn hs hlo hhi hv hd hp h1 hlo2 hhi2 hy hz hdd hyp hzp hdp hmz hm hx hcap
  subst h64
  go_enter Tryz.func100,Tryz.ntmps100
  obtain⟨W0,hW0⟩:∃ W0,W0=(w.alloc (.cells #[.int .u64 (wd p 0),.int .u64 (wd p 1),.int .u64 (wd p 2),.int .u64 (wd p 3)] 63)).alloc (.cells #[.int .u64 0,.int .u64 0,.int .u64 0,.int .u64 0] 63):=⟨_,rfl⟩
  have HF0:=hid (show W0.heap[w.heap.size]?=some (.cells #[.int .u64 (wd p 0),.int .u64 (wd p 1),.int .u64 (wd p 2),.int .u64 (wd p 3)] 63) by rw[hW0];exact heap_old' (heap_new' rfl _) _)
  have HR0:=hid (show W0.heap[w.heap.size+1]?=some (.cells #[.int .u64 0,.int .u64 0,.int .u64 0,.int .u64 0] 63) by rw[hW0];exact heap_new' (by simp) _)
  have HO0:=hid (show Off (fun _=>False) w W0 by rw[hW0];exact(((Off.refl (fun _=>False) w).alloc _).alloc _))
  have HK0:Hid (∀ W,Off (fun _=>False) W0 W->(W.cell? ⟨w.heap.size,0,none⟩=some (.int .u64 (wd p 0))/\W.cell? ⟨w.heap.size,1,none⟩=some (.int .u64 (wd p 1))/\W.cell? ⟨w.heap.size,2,none⟩=some (.int .u64 (wd p 2))/\W.cell? ⟨w.heap.size,3,none⟩=some (.int .u64 (wd p 3)))/\Off (fun _=>False) W0 W):=hid (fun W h=>⟨cells4 (h.heap HF0.out (fun c=>c)),h⟩)
  have HW0:=hid hW0
  clear hW0
  go_upto_region 3 with fail
  rw[<-HW0.out]
  refine wp_region_inv (fun a0 l a' w'=>∃ (u12:Value) (u13:Value) (u14:Value) (u15:Value) (u16:Value) (u6:Value) (b6:Nat),a'=(Act.put (Act.put (Act.put (Act.put (Act.put (Act.put a0 (some 12) u12) (some 13) u13) (some 14) u14) (some 15) u15) (some 16) u16) (some 6) u6)/\Slot l 0 u12 (V p)/\Slot l 1 u13 (.slice (some ⟨bb,off,none⟩) 64 cap)/\Slot l 2 u14 (.slice (some ⟨bb,off,none⟩) 32 cap)/\Slot l 3 u15 (V lo)/\Slot l 4 u16 (V y)/\Blk l 5 6 u6 b6 W0 w' (.cells #[.int .u64 0,.int .u64 0,.int .u64 0,.int .u64 0] 63) (.cells #[.int .u64 (wd y 0),.int .u64 (wd y 1),.int .u64 (wd y 2),.int .u64 (wd y 3)] 63)/\Off (fun _=>False) W0 w') (by kernel_rfl) (by kernel_rfl) ?_ ⟨?_,?_,?_,?_,?_,?_,?_,trivial⟩ ?_
  ·refine⟨?z12,?z13,?z14,?z15,?z16,?z6,0,?fr,Slot.start _ _ _,Slot.start _ _ _,Slot.start _ _ _,Slot.start _ _ _,Slot.start _ _ _,Blk.start _ _ _ _ _ _ _ _,(Off.refl _ W0).drew⟩
   case fr=>first | (simp only[XP];rfl) | simp only[XP]
  all_goals try (intro l a wr hI hl hd K' hK;obtain⟨u12,u13,u14,u15,u16,u6,b6,ha,s0,s1,s2,s3,s4,B5,hO⟩:=hI;simp only[XP]at ha)
  ·subst ha
   have hc:=HK0.out wr hO
   have p0:=hc.1.1
   have p1:=hc.1.2.1
   have p2:=hc.1.2.2.1
   have p3:=hc.1.2.2.2
   clear hc
   go_simp
   refine hK.out _ _ ⟨_,_,_,_,_,_,_,?_,Slot.new _ _ _,s1.keep rfl,s2.keep rfl,s3.keep rfl,s4.keep rfl,B5.keep (Off.refl _ wr) rfl rfl,hO⟩
   simp only[XP]
  ·subst ha
   go_simp
   refine hK.out _ _ ⟨_,_,_,_,_,_,_,?_,s0.keep rfl,Slot.new _ _ _,s2.keep rfl,s3.keep rfl,s4.keep rfl,B5.keep (Off.refl _ wr) rfl rfl,hO⟩
   simp only[XP]
  ·have q1:=s1 (hd 1 (by decide))
   subst ha q1
   go_simp
   refine hK.out _ _ ⟨_,_,_,_,_,_,_,?_,s0.keep rfl,s1.keep rfl,Slot.new _ _ _,s3.keep rfl,s4.keep rfl,B5.keep (Off.refl _ wr) rfl rfl,hO⟩
   simp only[XP]
  ·have q2:=s2 (hd 2 (by decide))
   subst ha q2
   go_simp
   refine(held_inv (HN1.out wr ((HO0.out.trans hO (fun _ _ c=>c)).mono (S':=fun k=>w.heap.size<=k) (fun _ _ c=>c.elim))) hO).mono ?_
   rintro e w1 ⟨rfl,hO1,hOW⟩
   go_wp2_with fail
   refine hK.out _ _ ⟨_,_,_,_,_,_,_,?_,s0.keep rfl,s1.keep rfl,s2.keep rfl,Slot.new _ _ _,s4.keep rfl,B5.keep hOW rfl rfl,hO1⟩
   simp only[XP]
  ·have q0:=s0 (hd 0 (by decide))
   have q3:=s3 (hd 3 (by decide))
   subst ha q0 q3
   go_simp
   refine(held_inv (HT1.out wr) hO).mono ?_
   rintro e w1 ⟨rfl,hO1,hOW⟩
   go_wp2_with fail
   refine hK.out _ _ ⟨_,_,_,_,_,_,_,?_,s0.keep rfl,s1.keep rfl,s2.keep rfl,s3.keep rfl,Slot.new _ _ _,B5.keep hOW rfl rfl,hO1⟩
   simp only[XP]
  ·subst ha
   go_simp
   refine hK.out _ _ ⟨_,_,_,_,_,_,_,?_,s0.keep rfl,s1.keep rfl,s2.keep rfl,s3.keep rfl,s4.keep rfl,B5.make hl rfl hO,hO.alloc _⟩
   simp only[XP]
  ·have h5:=hd 5 (by decide)
   have q5:=B5.ptr h5
   have q4:=s4 (hd 4 (by decide))
   subst ha q5 q4
   obtain⟨⟨m0,m1,m2,m3⟩,fz,lt⟩:=zero_cells (B5.was h5 hl)
   go_simp
   refine hK.out _ _ ⟨_,_,_,_,_,_,_,?_,s0.keep rfl,s1.keep rfl,s2.keep rfl,s3.keep rfl,s4.keep rfl,B5.put hl h5 rfl rfl,setCells_in hO (fun c=>absurd c (Nat.not_lt.2 (B5.new h5))) [.int .u64 (wd y 0),.int .u64 (wd y 1),.int .u64 (wd y 2),.int .u64 (wd y 3)]⟩
   simp only[XP]
  intro l a wc hI hd
  obtain⟨u12,u13,u14,u15,u16,u6,b6,ha,s0,s1,s2,s3,s4,B5,hO⟩:=hI
  simp only[XP]at ha
  have q0:=s0 (hd 0 (by decide))
  have q1:=s1 (hd 1 (by decide))
  have q2:=s2 (hd 2 (by decide))
  have q3:=s3 (hd 3 (by decide))
  have q4:=s4 (hd 4 (by decide))
  have q5:=B5.ptr (hd 5 (by decide))
  have n6:wc.heap[b6]?=some (.cells #[.int .u64 (wd y 0),.int .u64 (wd y 1),.int .u64 (wd y 2),.int .u64 (wd y 3)] 63):=B5.now (hd 5 (by decide)) (hd 6 (by decide))
  have v6:=B5.new (hd 5 (by decide))
  subst ha q0 q1 q2 q3 q4 q5
  clear hd s0 s1 s2 s3 s4 B5
  obtain⟨W1,hW1⟩:∃ W1,W1=wc:=⟨_,rfl⟩
  subst hW1
  have HF1:=hid (hO.heap HF0.out (fun c=>c))
  have HR1:=hid (hO.heap HR0.out (fun c=>c))
  have HO1:=hid (HO0.out.trans hO (fun _ _ c=>c))
  have HY1:=hid n6
  have HYN:=hid (show w.heap.size+1<b6 from Nat.lt_of_lt_of_le (heap_lt HR0.out) v6)
  have HK1:Hid (∀ W,Off (fun _=>False) W1 W->(W.cell? ⟨w.heap.size,0,none⟩=some (.int .u64 (wd p 0))/\W.cell? ⟨w.heap.size,1,none⟩=some (.int .u64 (wd p 1))/\W.cell? ⟨w.heap.size,2,none⟩=some (.int .u64 (wd p 2))/\W.cell? ⟨w.heap.size,3,none⟩=some (.int .u64 (wd p 3)))/\Off (fun _=>False) W1 W):=hid (fun W h=>⟨cells4 (h.heap HF1.out (fun c=>c)),h⟩)
  clear hO n6 v6 HW0 HK0 HF0 HR0 HO0 HN1 HT1 l
  go_upto_region 4 with fail
  refine wp_region_inv (fun a0 l a' w'=>∃ (u17:Value) (u18:Value) (u19:Value) (u20:Value) (u21:Value) (u7:Value) (b7:Nat),a'=(Act.put (Act.put (Act.put (Act.put (Act.put (Act.put a0 (some 17) u17) (some 18) u18) (some 19) u19) (some 20) u20) (some 21) u21) (some 7) u7)/\Slot l 0 u17 (V p)/\Slot l 1 u18 (.slice (some ⟨bb,off,none⟩) 64 cap)/\Slot l 2 u19 (.slice (some ⟨bb,off+32,none⟩) 32 (cap-32))/\Slot l 3 u20 (V hi)/\Slot l 4 u21 (V z)/\Blk l 5 6 u7 b7 W1 w' (.cells #[.int .u64 0,.int .u64 0,.int .u64 0,.int .u64 0] 63) (.cells #[.int .u64 (wd z 0),.int .u64 (wd z 1),.int .u64 (wd z 2),.int .u64 (wd z 3)] 63)/\Off (fun _=>False) W1 w') (by kernel_rfl) (by kernel_rfl) ?_ ⟨?_,?_,?_,?_,?_,?_,?_,trivial⟩ ?_
  ·refine⟨?z17,?z18,?z19,?z20,?z21,?z7,0,?fr,Slot.start _ _ _,Slot.start _ _ _,Slot.start _ _ _,Slot.start _ _ _,Slot.start _ _ _,Blk.start _ _ _ _ _ _ _ _,(Off.refl _ W1).drew⟩
   case fr=>first | (simp only[XP];rfl) | simp only[XP]
  all_goals try (intro l a wr hI hl hd K' hK;obtain⟨u17,u18,u19,u20,u21,u7,b7,ha,s0,s1,s2,s3,s4,B5,hO⟩:=hI;simp only[XP]at ha)
  ·subst ha
   have hc:=HK1.out wr hO
   have p0:=hc.1.1
   have p1:=hc.1.2.1
   have p2:=hc.1.2.2.1
   have p3:=hc.1.2.2.2
   clear hc
   go_simp
   refine hK.out _ _ ⟨_,_,_,_,_,_,_,?_,Slot.new _ _ _,s1.keep rfl,s2.keep rfl,s3.keep rfl,s4.keep rfl,B5.keep (Off.refl _ wr) rfl rfl,hO⟩
   simp only[XP]
  ·subst ha
   go_simp
   refine hK.out _ _ ⟨_,_,_,_,_,_,_,?_,s0.keep rfl,Slot.new _ _ _,s2.keep rfl,s3.keep rfl,s4.keep rfl,B5.keep (Off.refl _ wr) rfl rfl,hO⟩
   simp only[XP]
  ·have q1:=s1 (hd 1 (by decide))
   subst ha q1
   go_simp
   refine hK.out _ _ ⟨_,_,_,_,_,_,_,?_,s0.keep rfl,s1.keep rfl,Slot.new _ _ _,s3.keep rfl,s4.keep rfl,B5.keep (Off.refl _ wr) rfl rfl,hO⟩
   simp only[XP]
  ·have q2:=s2 (hd 2 (by decide))
   subst ha q2
   go_simp
   refine(held_inv (HN2.out wr ((HO1.out.trans hO (fun _ _ c=>c)).mono (S':=fun k=>w.heap.size<=k) (fun _ _ c=>c.elim))) hO).mono ?_
   rintro e w1 ⟨rfl,hO1,hOW⟩
   go_wp2_with fail
   refine hK.out _ _ ⟨_,_,_,_,_,_,_,?_,s0.keep rfl,s1.keep rfl,s2.keep rfl,Slot.new _ _ _,s4.keep rfl,B5.keep hOW rfl rfl,hO1⟩
   simp only[XP]
  ·have q0:=s0 (hd 0 (by decide))
   have q3:=s3 (hd 3 (by decide))
   subst ha q0 q3
   go_simp
   refine(held_inv (HT2.out wr) hO).mono ?_
   rintro e w1 ⟨rfl,hO1,hOW⟩
   go_wp2_with fail
   refine hK.out _ _ ⟨_,_,_,_,_,_,_,?_,s0.keep rfl,s1.keep rfl,s2.keep rfl,s3.keep rfl,Slot.new _ _ _,B5.keep hOW rfl rfl,hO1⟩
   simp only[XP]
  ·subst ha
   go_simp
   refine hK.out _ _ ⟨_,_,_,_,_,_,_,?_,s0.keep rfl,s1.keep rfl,s2.keep rfl,s3.keep rfl,s4.keep rfl,B5.make hl rfl hO,hO.alloc _⟩
   simp only[XP]
  ·have h5:=hd 5 (by decide)
   have q5:=B5.ptr h5
   have q4:=s4 (hd 4 (by decide))
   subst ha q5 q4
   obtain⟨⟨m0,m1,m2,m3⟩,fz,lt⟩:=zero_cells (B5.was h5 hl)
   go_simp
   refine hK.out _ _ ⟨_,_,_,_,_,_,_,?_,s0.keep rfl,s1.keep rfl,s2.keep rfl,s3.keep rfl,s4.keep rfl,B5.put hl h5 rfl rfl,setCells_in hO (fun c=>absurd c (Nat.not_lt.2 (B5.new h5))) [.int .u64 (wd z 0),.int .u64 (wd z 1),.int .u64 (wd z 2),.int .u64 (wd z 3)]⟩
   simp only[XP]
  intro l a wc hI hd
  obtain⟨u17,u18,u19,u20,u21,u7,b7,ha,s0,s1,s2,s3,s4,B5,hO⟩:=hI
  simp only[XP]at ha
  have q0:=s0 (hd 0 (by decide))
  have q1:=s1 (hd 1 (by decide))
  have q2:=s2 (hd 2 (by decide))
  have q3:=s3 (hd 3 (by decide))
  have q4:=s4 (hd 4 (by decide))
  have q5:=B5.ptr (hd 5 (by decide))
  have n7:wc.heap[b7]?=some (.cells #[.int .u64 (wd z 0),.int .u64 (wd z 1),.int .u64 (wd z 2),.int .u64 (wd z 3)] 63):=B5.now (hd 5 (by decide)) (hd 6 (by decide))
  have v7:=B5.new (hd 5 (by decide))
  subst ha q0 q1 q2 q3 q4 q5
  clear hd s0 s1 s2 s3 s4 B5
  obtain⟨W3,hW2⟩:∃ W3,W3=wc:=⟨_,rfl⟩
  subst hW2
  have HR3:=hid (hO.heap HR1.out (fun c=>c))
  have HF3:=hid (hO.heap HF1.out (fun c=>c))
  have HY3:=hid (hO.heap HY1.out (fun c=>c))
  have HZ3:=hid n7
  have HO3:=hid (HO1.out.trans hO (fun _ _ c=>c))
  have l6:b6≠w.heap.size+1:=by have h2:=HYN.out;omega
  have l7:b7≠w.heap.size+1:=by have h1:=heap_lt HR1.out;omega
  have HK3:Hid (∀ W,Off (fun k=>k=(w.heap.size+1)) W3 W->(W.cell? ⟨w.heap.size,0,none⟩=some (.int .u64 (wd p 0))/\W.cell? ⟨w.heap.size,1,none⟩=some (.int .u64 (wd p 1))/\W.cell? ⟨w.heap.size,2,none⟩=some (.int .u64 (wd p 2))/\W.cell? ⟨w.heap.size,3,none⟩=some (.int .u64 (wd p 3)))/\(W.cell? ⟨b6,0,none⟩=some (.int .u64 (wd y 0))/\W.cell? ⟨b6,1,none⟩=some (.int .u64 (wd y 1))/\W.cell? ⟨b6,2,none⟩=some (.int .u64 (wd y 2))/\W.cell? ⟨b6,3,none⟩=some (.int .u64 (wd y 3)))/\(W.cell? ⟨b7,0,none⟩=some (.int .u64 (wd z 0))/\W.cell? ⟨b7,1,none⟩=some (.int .u64 (wd z 1))/\W.cell? ⟨b7,2,none⟩=some (.int .u64 (wd z 2))/\W.cell? ⟨b7,3,none⟩=some (.int .u64 (wd z 3)))/\Off (fun k=>k=(w.heap.size+1)) W3 W):=hid (fun W h=>⟨cells4 (h.heap HF3.out (by omega)),cells4 (h.heap HY3.out l6),cells4 (h.heap HZ3.out l7),h⟩)
  clear hO n7 v7 HN2 HT2 HK1 HF1 HR1 HO1 HY1
  go_upto_region 5 with fail
  refine wp_region_inv (fun a0 l a' w'=>∃ (u22:Value) (u23:Value) (u24:Value) (u25:Value) (u26:Value) (u27:Value) (u28:Value) (u29:Value) (u5:Value),a'=(Act.put (Act.put (Act.put (Act.put (Act.put (Act.put (Act.put (Act.put (Act.put a0 (some 22) u22) (some 23) u23) (some 24) u24) (some 25) u25) (some 26) u26) (some 27) u27) (some 28) u28) (some 29) u29) (some 5) u5)/\Slot l 0 u22 (V p)/\Slot l 1 u23 (V y)/\Slot l 2 u24 (V p)/\Slot l 3 u25 (V p)/\Slot l 4 u26 (V d)/\Slot l 5 u27 (V z)/\Slot l 6 u28 (V m)/\Slot l 7 u29 (V x)/\Slot l 9 u5 (.int .i64 0)/\Old l 8 (w.heap.size+1) W3 w' (.cells #[.int .u64 0,.int .u64 0,.int .u64 0,.int .u64 0] 63) (.cells #[.int .u64 (wd x 0),.int .u64 (wd x 1),.int .u64 (wd x 2),.int .u64 (wd x 3)] 63)/\Off (fun k=>k=(w.heap.size+1)) W3 w') (by kernel_rfl) (by kernel_rfl) ?_ ⟨?_,?_,?_,?_,?_,?_,?_,?_,?_,?_,trivial⟩ ?_
  ·refine⟨?z22,?z23,?z24,?z25,?z26,?z27,?z28,?z29,?z5,?fr,Slot.start _ _ _,Slot.start _ _ _,Slot.start _ _ _,Slot.start _ _ _,Slot.start _ _ _,Slot.start _ _ _,Slot.start _ _ _,Slot.start _ _ _,Slot.start _ _ _,Old.start HR3.out _ _,(Off.refl _ W3).drew⟩
   case fr=>first | (simp only[XP];rfl) | simp only[XP]
  all_goals try (intro l a wr hI hl hd K' hK;obtain⟨u22,u23,u24,u25,u26,u27,u28,u29,u5,ha,s0,s1,s2,s3,s4,s5,s6,s7,s9,O0,hO⟩:=hI;simp only[XP]at ha)
  ·subst ha
   have hc:=HK3.out wr hO
   have p0:=hc.1.1
   have p1:=hc.1.2.1
   have p2:=hc.1.2.2.1
   have p3:=hc.1.2.2.2
   clear hc
   go_simp
   refine hK.out _ _ ⟨_,_,_,_,_,_,_,_,_,?_,Slot.new _ _ _,s1.keep rfl,s2.keep rfl,s3.keep rfl,s4.keep rfl,s5.keep rfl,s6.keep rfl,s7.keep rfl,s9.keep rfl,O0.keep (Off.refl _ wr) rfl,hO⟩
   simp only[XP]
  ·subst ha
   have hc:=HK3.out wr hO
   have p0:=hc.2.1.1
   have p1:=hc.2.1.2.1
   have p2:=hc.2.1.2.2.1
   have p3:=hc.2.1.2.2.2
   clear hc
   go_simp
   refine hK.out _ _ ⟨_,_,_,_,_,_,_,_,_,?_,s0.keep rfl,Slot.new _ _ _,s2.keep rfl,s3.keep rfl,s4.keep rfl,s5.keep rfl,s6.keep rfl,s7.keep rfl,s9.keep rfl,O0.keep (Off.refl _ wr) rfl,hO⟩
   simp only[XP]
  ·subst ha
   have hc:=HK3.out wr hO
   have p0:=hc.1.1
   have p1:=hc.1.2.1
   have p2:=hc.1.2.2.1
   have p3:=hc.1.2.2.2
   clear hc
   go_simp
   refine hK.out _ _ ⟨_,_,_,_,_,_,_,_,_,?_,s0.keep rfl,s1.keep rfl,Slot.new _ _ _,s3.keep rfl,s4.keep rfl,s5.keep rfl,s6.keep rfl,s7.keep rfl,s9.keep rfl,O0.keep (Off.refl _ wr) rfl,hO⟩
   simp only[XP]
  ·subst ha
   have hc:=HK3.out wr hO
   have p0:=hc.1.1
   have p1:=hc.1.2.1
   have p2:=hc.1.2.2.1
   have p3:=hc.1.2.2.2
   clear hc
   go_simp
   refine hK.out _ _ ⟨_,_,_,_,_,_,_,_,_,?_,s0.keep rfl,s1.keep rfl,s2.keep rfl,Slot.new _ _ _,s4.keep rfl,s5.keep rfl,s6.keep rfl,s7.keep rfl,s9.keep rfl,O0.keep (Off.refl _ wr) rfl,hO⟩
   simp only[XP]
  ·have q3:=s3 (hd 3 (by decide))
   subst ha q3
   go_simp
   refine(held_inv (HX.out wr) hO).mono ?_
   rintro e w1 ⟨rfl,hO1,hOW⟩
   go_wp2_with fail
   refine hK.out _ _ ⟨_,_,_,_,_,_,_,_,_,?_,s0.keep rfl,s1.keep rfl,s2.keep rfl,s3.keep rfl,Slot.new _ _ _,s5.keep rfl,s6.keep rfl,s7.keep rfl,s9.keep rfl,O0.keep hOW rfl,hO1⟩
   simp only[XP]
  ·subst ha
   have hc:=HK3.out wr hO
   have p0:=hc.2.2.1.1
   have p1:=hc.2.2.1.2.1
   have p2:=hc.2.2.1.2.2.1
   have p3:=hc.2.2.1.2.2.2
   clear hc
   go_simp
   refine hK.out _ _ ⟨_,_,_,_,_,_,_,_,_,?_,s0.keep rfl,s1.keep rfl,s2.keep rfl,s3.keep rfl,s4.keep rfl,Slot.new _ _ _,s6.keep rfl,s7.keep rfl,s9.keep rfl,O0.keep (Off.refl _ wr) rfl,hO⟩
   simp only[XP]
  ·have q2:=s2 (hd 2 (by decide))
   have q4:=s4 (hd 4 (by decide))
   have q5:=s5 (hd 5 (by decide))
   subst ha q2 q4 q5
   go_simp
   refine(held_inv (HM.out wr) hO).mono ?_
   rintro e w1 ⟨rfl,hO1,hOW⟩
   go_wp2_with fail
   refine hK.out _ _ ⟨_,_,_,_,_,_,_,_,_,?_,s0.keep rfl,s1.keep rfl,s2.keep rfl,s3.keep rfl,s4.keep rfl,s5.keep rfl,Slot.new _ _ _,s7.keep rfl,s9.keep rfl,O0.keep hOW rfl,hO1⟩
   simp only[XP]
  ·have q0:=s0 (hd 0 (by decide))
   have q1:=s1 (hd 1 (by decide))
   have q6:=s6 (hd 6 (by decide))
   subst ha q0 q1 q6
   go_simp
   refine(held_inv (HA.out wr) hO).mono ?_
   rintro e w1 ⟨rfl,hO1,hOW⟩
   go_wp2_with fail
   refine hK.out _ _ ⟨_,_,_,_,_,_,_,_,_,?_,s0.keep rfl,s1.keep rfl,s2.keep rfl,s3.keep rfl,s4.keep rfl,s5.keep rfl,s6.keep rfl,Slot.new _ _ _,s9.keep rfl,O0.keep hOW rfl,hO1⟩
   simp only[XP]
  ·have q7:=s7 (hd 7 (by decide))
   subst ha q7
   obtain⟨⟨m0,m1,m2,m3⟩,fz,lt⟩:=zero_cells (O0.was hl)
   go_simp
   refine hK.out _ _ ⟨_,_,_,_,_,_,_,_,_,?_,s0.keep rfl,s1.keep rfl,s2.keep rfl,s3.keep rfl,s4.keep rfl,s5.keep rfl,s6.keep rfl,s7.keep rfl,s9.keep rfl,O0.put hl rfl,setCells_in hO (fun _=>rfl) [.int .u64 (wd x 0),.int .u64 (wd x 1),.int .u64 (wd x 2),.int .u64 (wd x 3)]⟩
   simp only[XP]
  ·subst ha
   go_simp
   refine hK.out _ _ ⟨_,_,_,_,_,_,_,_,_,?_,s0.keep rfl,s1.keep rfl,s2.keep rfl,s3.keep rfl,s4.keep rfl,s5.keep rfl,s6.keep rfl,s7.keep rfl,Slot.new _ _ _,O0.keep (Off.refl _ wr) rfl,hO⟩
   simp only[XP]
  intro l a wc hI hd
  obtain⟨u22,u23,u24,u25,u26,u27,u28,u29,u5,ha,s0,s1,s2,s3,s4,s5,s6,s7,s9,O0,hO⟩:=hI
  simp only[XP]at ha
  have q0:=s0 (hd 0 (by decide))
  have q1:=s1 (hd 1 (by decide))
  have q2:=s2 (hd 2 (by decide))
  have q3:=s3 (hd 3 (by decide))
  have q4:=s4 (hd 4 (by decide))
  have q5:=s5 (hd 5 (by decide))
  have q6:=s6 (hd 6 (by decide))
  have q7:=s7 (hd 7 (by decide))
  have q9:=s9 (hd 9 (by decide))
  have r0:wc.heap[(w.heap.size+1)]?=some (.cells #[.int .u64 (wd x 0),.int .u64 (wd x 1),.int .u64 (wd x 2),.int .u64 (wd x 3)] 63):=O0.now (hd 8 (by decide))
  subst ha q0 q1 q2 q3 q4 q5 q6 q7 q9
  clear hd s0 s1 s2 s3 s4 s5 s6 s7 s9 O0
  have hOf:Off (fun _=>False) w wc:=HO3.out.trans hO (fun k hk e=>by omega)
  obtain⟨p0,p1,p2,p3⟩:=cells4 r0
  have HOf:=hid hOf
  clear hOf hO HK3 HR3 HF3 HY3 HZ3 HO3 r0
  go_wp2
  refine bodyPost_ret (v:=.tuple #[V x,.int .i64 0]) (by simp[results,Tryz.results100,go_sem,p0,p1,p2,p3]) rfl ⟨rfl,HOf.out⟩
 have hd:rwideV p bs=(0,8):=by unfold rwideV;rw[if_neg (by omega)]
 have h2:¬((n:Int)=64):=by omega
 rw[hd,show V (0,8).1=_ from lit_small 0 (by decide)]
 clear hb hn hs hp h1 hd
 go_enter Tryz.func100,Tryz.ntmps100
 go_wp2
 refine bodyPost_ret (v:=.tuple #[.agg #[.int .u64 ((0:Nat):Int),.int .u64 0,.int .u64 0,.int .u64 0],.int .i64 8]) (by simp[results,Tryz.results100,go_sem]) rfl ⟨rfl,?_⟩
 exact((Off.refl _ w).alloc _).alloc _
end
section
open Go.RowKit
attribute [local go_sem ↓] Go.wp_at_zero Go.wp_at_succ
theorem rows_apart {w:World} {base base2 size size2 n m:Nat} {T T2:TypeId} {u v:Value} {xs ys:List Value} (h:w.ownsRow base T size u n xs) (k:w.ownsRow base2 T2 size2 v m ys) (hne:T≠T2):u.ownBlock=none\/u.ownBlock≠v.ownBlock:=by
 rcases h.2 with ⟨rfl,_⟩ | ⟨g,cap,cur,rfl,_,hg,_⟩
 ·exact .inl rfl
 rcases k.2 with ⟨rfl,_⟩ | ⟨g2,cap2,cur2,rfl,_,hg2,_⟩
 ·exact .inr (by simp[Value.ownBlock])
 refine .inr (fun e=>?_)
 obtain rfl:g=g2:=by simpa[Value.ownBlock]using e
 rw[hg]at hg2
 simp only[Option.some.injEq,Obj.cells.injEq]at hg2
 exact hne hg2.2.1
end
section
open Go.RowKit
set_option maxRecDepth 100000
set_option maxHeartbeats 4000000
def RowLL (Ti To:TypeId) (B:Nat) (W:World) (v:Value) (zss:List (List Nat)):Prop :=
 ∃ us:List Value,W.ownsRow B To 1 v us.length us/\us.length=zss.length/\∀ (t:Nat) (u:Value) (zs:List Nat),us[t]?=some u->zss[t]?=some zs->∃ a c,u=.slice a zs.length c/\W.ownsRow B Ti 4 u zs.length (flat4 zs)
theorem RowLL.nil (Ti To:TypeId) (B:Nat) (W:World):RowLL Ti To B W (.slice none 0 0) []:=⟨[],World.ownsRow_nil _ _ _ _,rfl,fun t u zs h=>by simp at h⟩
theorem own_offT {S:Nat->Prop} {w w':World} {B size n:Nat} {T:TypeId} {v:Value} {xs:List Value} (h:w.ownsRow B T size v n xs) (ho:Off S w w') (hd:∀ k,B<=k->¬S k):w'.ownsRow B T size v n xs:=by
 obtain⟨hl,h⟩:=h
 refine⟨hl,?_⟩
 rcases h with hn | ⟨g,cap,cur,rfl,hb,hg,r⟩
 ·exact .inl hn
 exact .inr ⟨g,cap,cur,rfl,hb,ho.heap hg (hd g hb),r⟩
theorem RowLL.off {Ti To:TypeId} {B:Nat} {S:Nat->Prop} {W W':World} {v:Value} {zss:List (List Nat)} (h:RowLL Ti To B W v zss) (ho:Off S W W') (hd:∀ k,B<=k->¬S k):RowLL Ti To B W' v zss:=by
 obtain⟨us,h1,h2,h3⟩:=h
 refine⟨us,own_offT h1 ho hd,h2,fun t u zs hu hz=>?_⟩
 obtain⟨a,c,e,h4⟩:=h3 t u zs hu hz
 exact⟨a,c,e,own_offT h4 ho hd⟩
theorem RowLL.lls {Ti To:TypeId} {B:Nat} {W:World} {v:Value} {zss:List (List Nat)} (h:RowLL Ti To B W v zss) (hl:zss.length<=1000) (hz:∀ zs∈zss,zs.length<=100000):LLs W v zss:=by
 obtain⟨us,h1,h2,h3⟩:=h
 have h1':=h1
 rcases h1.2 with ⟨rfl,hn⟩ | ⟨g,cap,cur,rfl,hBg,hgc,hnc,hcm,hcs,htake⟩
 ·exact⟨none,0,by rw[<-h2,hn],hl,fun hp=>by omega⟩
 refine⟨_,cap,by rw[h2],hl,fun hp=>⟨g,0,rfl,trivial,fun j zs hj=>?_⟩⟩
 have hjl:j<us.length:=by have:=(List.getElem?_eq_some_iff.1 hj).1;omega
 have hu:us[j]?=some us[j]:=List.getElem?_eq_getElem hjl
 obtain⟨a,c,e,h4⟩:=h3 j _ zs hu hj
 refine⟨us[j],?_,?_⟩
 ·have:=World.ownsRow.cellAt h1' j (by omega)
  rw[Nat.zero_add,this];exact hu
 rw[e]at h4 ⊢
 exact Ls.of (ls_of_own h4 rfl (hz zs (List.mem_of_getElem? hj)))
theorem app_vec {B:Nat} {W:World} {v sv:Value} {xs ys:List Nat} {S:Nat->Prop} (h1:W.ownsRow B 63 4 v xs.length (flat4 xs)) (hB:B<=W.heap.size) (h2:LsAt W sv ys S) (hk:xs.length+ys.length<=100000) :
  ∃ v' w',(Builtin.append_ #[76,76] 76 #[v,sv]).run Tryz.prog W=.ok v' w'/\w'.ownsRow B 63 4 v' (xs++ys).length (flat4 (xs++ys))/\W.grownBy w' v.ownBlock:=by
 obtain⟨i0,hi,hz0,hz1,hz2⟩:=info_parts vec_info
 obtain⟨a,cap,rfl,hl,hat⟩:=h2
 rcases Nat.eq_zero_or_pos ys.length with h0 | hp
 ·obtain rfl:ys=[]:=List.eq_nil_of_length_eq_zero h0
  refine⟨v,W,?_,by rw[List.append_nil];exact h1,⟨rfl,rfl,rfl,Nat.le_refl _,fun _ _ _=>rfl⟩⟩
  have ht:=Tryz.underlying76
  rcases h1.2 with ⟨rfl,hn⟩ | ⟨g,cp,cur,rfl,_,_,hnc,_⟩
  ·cases a <;> simp[Builtin.append_,run_underlying ht,sizeOf,typeInfo,hi,Builtin.lenOf,Builtin.firstCells,loadCells,loadCellsFrom]
  cases a <;> simp[Builtin.append_,run_underlying ht,sizeOf,typeInfo,hi,Builtin.lenOf,Builtin.firstCells,hnc,storeCells,loadCells,loadCellsFrom]
 obtain⟨b,off,rfl,_,hc⟩:=hat hp
 obtain⟨v',w',hr,ho,hg,_,hb⟩:=run_append_own_at (P:=Tryz.prog) W B 76 76 63 i0 _ 4 32 Tryz.underlying76 hi hz0 hz1 hz2 rfl (by decide) v xs.length _ h1 ⟨b,off,none⟩ ys.length cap (flat4 ys) (by rw[flat4_length]) (fun j u hj=>by
  have hjl:j<(flat4 ys).length:=(List.getElem?_eq_some_iff.1 hj).1
  rw[flat4_length]at hjl
  obtain⟨x,hx⟩:∃ x,ys[j / 4]?=some x:=⟨_,List.getElem?_eq_getElem (by omega)⟩
  obtain⟨c0,c1,c2,c3⟩:=hc _ x hx
  obtain⟨f0,f1,f2,f3⟩:=flat4_get ys _ x hx
  rw[Addr.add_lit]
  have h4:j=j / 4*4\/j=j / 4*4+1\/j=j / 4*4+2\/j=j / 4*4+3:=by omega
  rcases h4 with h | h | h | h
  ·rw[h]at hj ⊢;rw[f0]at hj;cases hj;exact c0
  ·rw[h]at hj ⊢;rw[f1]at hj;cases hj;rw[<-Nat.add_assoc];exact c1
  ·rw[h]at hj ⊢;rw[f2]at hj;cases hj;rw[<-Nat.add_assoc];exact c2
  rw[h]at hj ⊢;rw[f3]at hj;cases hj;rw[<-Nat.add_assoc];exact c3) (fun u hu=>by
  have:∀ l:List Nat,∀ u∈flat4 l,u.oneCell'=true:=fun l=>by
   induction l with
   | nil=>intro u h;cases h
   | cons x r ih =>
    intro u h
    simp only[flat4,List.mem_cons]at h
    rcases h with rfl | rfl | rfl | rfl | h <;> first | rfl | exact ih u h
  exact this ys u hu) (by unfold maxLen;omega) (by omega) hB
 refine⟨v',w',hr,?_,hg⟩
 rw[flat4_append,List.length_append]
 exact ho
theorem vecs_info:(Tryz.prog.info? 76).map (fun i=>(i.zero,i.size,i.bytes))=some (some (.slice none 0 0),1,24):=by kernel_rfl
theorem vec_ne_vecs:63≠76:=by decide
theorem app_ll {B bz:Nat} {W:World} {v:Value} {zss:List (List Nat)} {zs:List Nat} {a:Option Addr} {c:Nat} {T:TypeId} (h1:RowLL 63 76 B W v zss) (hB:B<=W.heap.size) (h2:W.ownsRow B 63 4 (.slice a zs.length c) zs.length (flat4 zs))
  (hb:W.heap[bz]?=some (.cells #[.slice a zs.length c] T (0,0))) (hk:zss.length+1<=100000) :
  ∃ v' w',(Builtin.append_ #[89,89] 89 #[v,.slice (some ⟨bz,0,none⟩) 1 1]).run Tryz.prog W=.ok v' w'/\RowLL 63 76 B w' v' (zss++[zs])/\W.grownBy w' v.ownBlock:=by
 obtain⟨i0,hi,hz0,hz1,hz2⟩:=info_parts vecs_info
 obtain⟨us,h3,h4,h5⟩:=h1
 obtain⟨v',w',hr,ho,hg,_,_⟩:=run_append_own_at (P:=Tryz.prog) W B 89 89 76 i0 _ 1 24 Tryz.underlying89 hi hz0 hz1 hz2 rfl (by decide) v us.length _ h3 ⟨bz,0,none⟩ 1 1 [.slice a zs.length c] rfl (fun j u hj=>by
  rw[Addr.add_lit,Nat.zero_add,cell_of_heap hb]
  match j,hj with
  | 0,hj=>simpa using hj
  | n+1,hj=>simp at hj) (fun u hu=>by simp at hu;subst hu;rfl) (by unfold maxLen;omega) (by omega) hB
 refine⟨v',w',hr,⟨us++[.slice a zs.length c],by rw[List.length_append];exact ho,by simp[h4],fun t u ys hu hy=>?_⟩,hg⟩
 by_cases ht:t<us.length
 ·rw[List.getElem?_append_left ht]at hu
  rw[List.getElem?_append_left (by omega)]at hy
  obtain⟨a1,c1,e,h6⟩:=h5 t u ys hu hy
  exact⟨a1,c1,e,h6.kept hg (rows_apart h6 h3 vec_ne_vecs)⟩
 have ht2:t=us.length:=by have:=(List.getElem?_eq_some_iff.1 hu).1;simp at this;omega
 subst ht2
 rw[List.getElem?_append_right (Nat.le_refl _)]at hu
 rw[h4,List.getElem?_append_right (Nat.le_refl _)]at hy
 simp at hu hy
 subst hu hy
 exact⟨a,c,rfl,h2.kept hg (rows_apart h2 h3 vec_ne_vecs)⟩
end
section
open Go.RowKit
attribute [local go_sem ↓] Go.wp_at_zero Go.wp_at_succ
set_option maxRecDepth 100000 in
set_option maxHeartbeats 4000000 in
theorem refsplit_any (a:Option Addr) (n cap:Nat) (bs:List Nat) (S:Nat->Prop) (w:World) (hb:BsAt w a bs S) (hn:n=bs.length) (hc:n<=cap) (hs:Small bs) (hl:n<=65535) :
  Calls Tryz.prog 79 #[.slice a n cap] w fun e w'=>∃ a2 c2,e=.returned (.tuple #[.slice a2 (cntN n) c2,.int .i64 0])/\w'.ownsRow w.heap.size 63 4 (.slice a2 (cntN n) c2) (cntN n) (flat4 (splitV bs))/\Off (fun _=>False) w w':=by
 obtain⟨j0,hj,hj0,hj1,hj2⟩:=info_parts vec_info
 have HB:=hid hb
 have HN:=hid hn
 have HS:=hid hs
 have hc1:(n:Int)<=(cap:Int):=by omega
 have hl1:¬(65535:Int)<(n:Int):=by omega
 have HSV:=hid (show splitV bs=splitK bs (cntN n) by unfold splitV;rw[hn])
 rw[HSV.out]
 clear hb hn hs
 go_enter Tryz.func79,Tryz.ntmps79
 go_wp2
 go_loopw [4,5] (fun v i wr=>∃ k:Nat,k<=cntN n/\i=.int .i64 ((31*k:Nat):Int)/\(∃ a c,v=.slice a k c/\wr.ownsRow w.heap.size 63 4 v k (flat4 (splitK bs k)))/\Off (fun _=>False) w wr) (fun _ i _=>n-(intOf i).toNat)
 case atStart=>exact⟨0,Nat.zero_le _,rfl,⟨none,0,rfl,World.ownsRow_nil _ _ _ _⟩,Off.refl _ w⟩
 case round =>
  obtain⟨k,hk,rfl,⟨va,vc,rfl,hov⟩,hO⟩:=hrel
  obtain⟨q,hq⟩:∃ q,q=31*k:=⟨_,rfl⟩
  rw[<-hq]
  by_cases hlt:q<n
  ·obtain⟨j,hj'⟩:∃ j,j=min (q+31) n:=⟨_,rfl⟩
   have hqj:q<=j:=by omega
   have hjn:j<=n:=by omega
   obtain⟨d,hd⟩:∃ d,d=j-q:=⟨_,rfl⟩
   have hd31:d<=31:=by omega
   obtain⟨a1,hsl,hb1⟩:=part_lh a n cap q j bs HN.out hqj hjn hc
   rw[<-hd]at hsl hb1
   obtain⟨m,hm⟩:∃ m,m=numB (chk bs k):=⟨_,rfl⟩
   have hck:(bs.drop q).take d=chk bs k:=by
    unfold chk
    rw[<-hq]
    by_cases h31:q+31<=n
    ·rw[show d=31 by omega]
    rw[List.take_of_length_le (by rw[List.length_drop,<-HN.out];omega),List.take_of_length_le (by rw[List.length_drop,<-HN.out];omega)]
   have FNu:=hid (fun W hO=>refnumber_any a1 d (cap-q) (chk bs k) S W (hck▸hb1 W S (HB.out.off hO (fun _ _ _ c=>c))) (by rw[<-hck,List.length_take,List.length_drop,<-HN.out];omega) (chk_small HS.out k) (by omega):∀ W,Off (fun _=>False) w W->_)
   rw[<-hm]at FNu
   have HFl:=hid (show flat4 (splitK bs k)++words4 m=flat4 (splitK bs (k+1)) by rw[splitK_succ,flat4_append,<-hm];rfl)
   have i1:(q:Int)<(n:Int):=by omega
   have w1:IntKind.i64.wrap ((q:Int)+31)=(q:Int)+31:=by rw[IntKind.wrap_i64];omega
   have mn:min ((q:Int)+31) (n:Int)=(j:Int):=by omega
   have hkc:k+1<=cntN n:=cntN_step (by omega)
   have HK:=hid (show k+1<=100000 by unfold cntN at hkc;omega)
   have HKC:=hid hkc
   have HO:=hid hO
   have HOv:=hid hov
   have HQ:=hid hq
   clear hk hov hO hb1 hck hm hj' hkc hq hd
   go_wp2_with fail
   refine(FNu.out _ HO.out).mono ?_
   rintro e u1 ⟨rfl,hO1⟩
   have HO2:=hid (HO.out.trans hO1 (fun _ _ c=>c))
   have HOv2:=hid (own_off HOv.out hO1)
   clear hO1
   go_wp2_with (at_builtin;refine wpList_append_own _ rfl _ _ 76 rfl w.heap.size 63 j0 _ 4 32 Tryz.underlying76 hj hj0 hj1 hj2 rfl (by decide) _ k _ rfl (HOv2.out.alloc _) ⟨u1.heap.size,0,none⟩ 1 1 (words4 m) rfl rfl ?q1 (words4_one _) ?q2 ?q3 ?q4 ?_)
   case q1=>exact words4_at (heap_new' rfl _)
   case q2=>have:=HK.out;unfold maxLen;omega
   case q3=>have:=HK.out;omega
   case q4=>have:=HO2.out.size;simp;omega
   intro v' w1 hown' hgrow hnil
   obtain⟨g6,c6,rfl⟩:=ownsRow_succ hown'
   have hO3:Off (fun _=>False) w w1:=grown_off (HO2.out.alloc _) (Nat.le_refl _) (HOv2.out.alloc _) hgrow
   rw[HFl.out]at hown'
   have w2:IntKind.i64.wrap ((q:Int)+31)=(q:Int)+31:=by rw[IntKind.wrap_i64];omega
   go_wp2
   go_roundw
   case rel=>exact⟨k+1,HKC.out,by rw[HQ.out,show((31*k:Nat):Int)+31=((31*(k+1):Nat):Int) by omega],⟨_,_,rfl,hown'⟩,hO3⟩
   case measure=>simp[intOf];omega
  have hkc:k=cntN n:=Nat.le_antisymm hk (cntN_end (by omega))
  subst hkc
  have i1:¬(q:Int)<(n:Int):=by omega
  have HQ:=hid hq
  clear hq
  go_wp2
  exact bodyPost_ret (v:=.tuple #[.slice va (cntN n) vc,.int .i64 0]) (by simp[results,Tryz.results79,go_sem]) rfl ⟨_,_,rfl,hov,hO⟩
end
section
open Go.RowKit
attribute [local go_sem ↓] Go.wp_at_zero Go.wp_at_succ
def RefP (W:World) (b:Nat) (bs:List Nat) (S:Nat->Prop):Prop:=∃ a cap,W.heap[b]?=some (.cells #[.slice a bs.length cap] 125 (0,0))/\bs.length<=cap/\BsAt W a bs S
theorem RefP.off {W W':World} {b:Nat} {bs:List Nat} {S S':Nat->Prop} (h:RefP W b bs S) (ho:Off S' W W') (hb:¬S' b) (hd:∀ k,k<W.heap.size->S k->¬S' k):RefP W' b bs S:=by
 obtain⟨a,cap,h1,h2,h3⟩:=h
 exact⟨a,cap,ho.heap h1 hb,h2,h3.off ho hd⟩
theorem RefP.lt {W:World} {b:Nat} {bs:List Nat} {S:Nat->Prop} (h:RefP W b bs S):b<W.heap.size:=by
 obtain⟨a,cap,h1,_⟩:=h
 exact heap_lt h1
theorem ref_put_one {W:World} {b:Nat} {u u':Value} {T:TypeId} (h:W.heap[b]?=some (.cells #[u] T (0,0))):(W.setCell ⟨b,0,none⟩ u').heap[b]?=some (.cells #[u'] T (0,0)):=setCells_at (vs:=[u']) h rfl
theorem ref_put_off (W:World) (b:Nat) (u':Value):Off (fun k=>k=b) W (W.setCell ⟨b,0,none⟩ u'):=setCells_off b [u'] 0 W
set_option maxRecDepth 100000 in
set_option maxHeartbeats 4000000 in
theorem reftake_any (b:Nat) (bs:List Nat) (S:Nat->Prop) (n:Int) (_hn:(Lit.int .i64 n).wf=true) (w:World) (h:RefP w b bs S) (hS:∀ k,S k->k≠b) :
  Calls Tryz.prog 99 #[.pointer (some ⟨b,0,none⟩),.int .i64 n] w fun e w'=>∃ a m c,e=.returned (.tuple #[.slice a m c,.int .i64 ((takeV bs n).2.1:Int)])/\m=(takeV bs n).1.length/\m<=c/\BsAt w' a (takeV bs n).1 S/\RefP w' b (takeV bs n).2.2 S/\Off (fun k=>k=b) w w':=by
 obtain⟨a,cap,h1,hc,hb⟩:=h
 obtain⟨N,hN⟩:∃ N,N=bs.length:=⟨_,rfl⟩
 rw[<-hN]at h1 hc
 have m0:w.cell? ⟨b,0,none⟩=some (.slice a N cap):=cell_of_heap h1 0
 by_cases hneg:n<0
 ·rw[takeV_neg hneg]
  have HH:=hid (show RefP w b bs S from⟨a,cap,by rw[<-hN];exact h1,by omega,hb⟩)
  clear h1 hc hb hN
  go_enter Tryz.func99,Tryz.ntmps99
  go_wp2
  exact bodyPost_ret (v:=.tuple #[.slice none 0 0,.int .i64 2]) (by simp[results,Tryz.results99,go_sem]) rfl ⟨none,0,0,rfl,rfl,Nat.le_refl _,BsAt.nil _ _ _,HH.out,(Off.refl (fun _=>False) _).mono (fun _ _ c=>c.elim)⟩
 by_cases hfew:(N:Int)<n
 ·rw[takeV_few (by omega) (by rw[<-hN];exact hfew)]
  have HH:=hid (show RefP w b bs S from⟨a,cap,by rw[<-hN];exact h1,by omega,hb⟩)
  clear h1 hc hb hN
  go_enter Tryz.func99,Tryz.ntmps99
  go_wp2
  exact bodyPost_ret (v:=.tuple #[.slice none 0 0,.int .i64 7]) (by simp[results,Tryz.results99,go_sem]) rfl ⟨none,0,0,rfl,rfl,Nat.le_refl _,BsAt.nil _ _ _,HH.out,(Off.refl (fun _=>False) _).mono (fun _ _ c=>c.elim)⟩
 obtain⟨k,rfl⟩:∃ k:Nat,n=(k:Int):=Int.eq_ofNat_of_zero_le (by omega)
 have hk:k<=N:=by omega
 rw[takeV_ok (by omega)]
 obtain⟨a1,hs1,hb1⟩:=part_h a N cap k bs hN hk hc
 obtain⟨a2,hs2,hb2⟩:=part_l a N cap k bs hN hk hc
 have fz:=fun j=>frozen_of_heap h1 j
 have lt:=heap_lt h1
 have hput:=ref_put_one (u':=.slice a2 (N-k) (cap-k)) h1
 have hoff:=ref_put_off w b (.slice a2 (N-k) (cap-k))
 have hd:∀ j,j<w.heap.size->S j->¬(j=b):=fun j _ hj e=>hS j hj e
 have hb3:=hb1 _ S (hb.off hoff hd)
 have hb4:=hb2 _ S (hb.off hoff hd)
 have HF:=hid (show RefP (w.setCell ⟨b,0,none⟩ (.slice a2 (N-k) (cap-k))) b (bs.drop k) S from⟨a2,cap-k,by rw[List.length_drop,<-hN];exact hput,by rw[List.length_drop];omega,hb4⟩)
 have HB:=hid hb3
 have HO:=hid hoff
 have HL:=hid (show k=(bs.take k).length by rw[List.length_take];omega)
 have HC:=hid (show k<=cap by omega)
 clear hput hoff hd hb3 hb4 hb1 hb2 hb h1 hc hN hS
 go_enter Tryz.func99,Tryz.ntmps99
 go_wp2
 exact bodyPost_ret (v:=.tuple #[.slice a1 k cap,.int .i64 0]) (by simp[results,Tryz.results99,go_sem]) rfl ⟨a1,k,cap,rfl,by first | exact HL.out | simpa using HL.out,HC.out,HB.out,HF.out,HO.out⟩
theorem grown_offS {S:Nat->Prop} {w W w1:World} {n k size:Nat} {T:TypeId} {v:Value} {xs:List Value} (hO:Off S w W) (hn:w.heap.size<=n) (h:W.ownsRow n T size v k xs) (hg:W.grownBy w1 v.ownBlock):Off S w w1 :=
 hO.grown hg (fun j ej=>by
  have hx:=(h.lt j ej).1
  refine⟨fun h=>by omega,fun o ho=>?_⟩
  rcases h.2 with ⟨rfl,_⟩ | ⟨g,cap,cur,rfl,_,hgb,_⟩
  ·simp[Value.ownBlock]at ej
  obtain rfl:g=j:=by simpa[Value.ownBlock]using ej
  rw[hgb]at ho;cases ho;rfl)
theorem own_offS {S:Nat->Prop} {w w':World} {base size n:Nat} {T:TypeId} {v:Value} {xs:List Value} (h:w.ownsRow base T size v n xs) (ho:Off S w w') (hd:∀ k,base<=k->¬S k):w'.ownsRow base T size v n xs:=by
 obtain⟨hl,h⟩:=h
 refine⟨hl,?_⟩
 rcases h with hn | ⟨g,cap,cur,rfl,hb,hg,r⟩
 ·exact .inl hn
 exact .inr ⟨g,cap,cur,rfl,hb,ho.heap hg (hd g hb),r⟩
theorem RefP.keep {W W':World} {b:Nat} {bs:List Nat} {S:Nat->Prop} (h:RefP W b bs S) (ho:Off (fun _=>False) W W'):RefP W' b bs S:=h.off ho (fun c=>c) (fun _ _ _ c=>c)
theorem RefP.grow {W W':World} {b:Nat} {bs:List Nat} {S:Nat->Prop} {row:Option Nat} (h:RefP W b bs S) (hg:W.grownBy W' row) (hr:∀ j,row=some j->j≠b/\¬S j):RefP W' b bs S:=by
 obtain⟨a,cap,h1,h2,h3⟩:=h
 refine⟨a,cap,(hg.block b (heap_lt h1) (fun e=>(hr b e.symm).1 rfl)).trans h1,h2,fun hp=>?_⟩
 obtain⟨c,o,ha,hS,hx⟩:=h3 hp
 refine⟨c,o,ha,hS,fun j x hj=>?_⟩
 have hc:=hx j x hj
 exact(World.cell?_of_block (hg.block c (World.block_lt_of_cell? W _ hc) (fun e=>(hr c e.symm).2 hS))).trans hc
set_option maxRecDepth 100000 in
set_option maxHeartbeats 4000000 in
theorem refels_any (p:Nat) (hp:p<R256) (h1p:1<p) (b:Nat) (bs:List Nat) (S:Nat->Prop) (n:Int) (_hnw:(Lit.int .i64 n).wf=true) (w:World) (h:RefP w b bs S) (hS:∀ k,S k->k≠b) (hSw:∀ k,S k->k<w.heap.size) (hsm:Small bs) (hl:bs.length<=100000) :
  Calls Tryz.prog 80 #[.pointer (some ⟨b,0,none⟩),V p,.int .i64 n] w fun e w'=>∃ v,e=.returned (.tuple #[v,.int .i64 ((elemsV bs n).2.1:Int)])/\Ls w' v ((elemsV bs n).1.map (·%p))/\RefP w' b (elemsV bs n).2.2 S/\Off (fun k=>k=b) w w':=by
 have hlt:=h.lt
 by_cases hneg:n<0
 ·rw[elemsV_neg hneg]
  have HH:=hid h
  clear h hS hSw hsm hl
  go_enter Tryz.func80,Tryz.ntmps80
  go_wp2
  exact bodyPost_ret (v:=.tuple #[.slice none 0 0,.int .i64 2]) (by simp[results,Tryz.results80,go_sem]) rfl ⟨_,rfl,Ls.nil _,HH.out.keep ((Off.refl _ w).alloc _),Off.mono (S:=fun _=>False) ((Off.refl _ w).alloc _) (fun _ _ c=>c.elim)⟩
 obtain⟨a0,cap,g0,hc0,hb0⟩:=h
 obtain⟨N,hN⟩:∃ N,N=bs.length:=⟨_,rfl⟩
 have HH:=hid (show RefP w b bs S from⟨a0,cap,g0,hc0,hb0⟩)
 rw[<-hN]at g0
 have m0:w.cell? ⟨b,0,none⟩=some (.slice a0 N cap):=cell_of_heap g0 0
 have hq0:Int.tdiv (N:Int) 64=((N / 64:Nat):Int):=by
  rw[Int.tdiv_eq_ediv_of_nonneg (by omega)]
  omega
 obtain⟨q,hq⟩:∃ q,q=N / 64:=⟨_,rfl⟩
 rw[<-hq]at hq0
 have hw0:IntKind.i64.wrap (q:Int)=(q:Int):=by rw[IntKind.wrap_i64];omega
 by_cases hfew:(q:Int)<n
 ·rw[elemsV_few (by omega) (by rw[<-hN,<-hq];exact hfew)]
  clear g0 hc0 hb0 hS hSw hsm hl hN hq
  go_enter Tryz.func80,Tryz.ntmps80
  go_wp2
  exact bodyPost_ret (v:=.tuple #[.slice none 0 0,.int .i64 7]) (by simp[results,Tryz.results80,go_sem]) rfl ⟨_,rfl,Ls.nil _,HH.out.keep ((Off.refl _ w).alloc _),Off.mono (S:=fun _=>False) ((Off.refl _ w).alloc _) (fun _ _ c=>c.elim)⟩
 obtain⟨k,rfl⟩:∃ k:Nat,n=(k:Int):=Int.eq_ofNat_of_zero_le (by omega)
 rw[elemsV_ok (by omega)]
 obtain⟨j0,hj,hj0,hj1,hj2⟩:=info_parts vec_info
 obtain⟨W1,hW1⟩:∃ W1,W1=w.alloc (.cells #[.int .u64 (wd p 0),.int .u64 (wd p 1),.int .u64 (wd p 2),.int .u64 (wd p 3)] 63):=⟨_,rfl⟩
 have hO1:Off (fun _=>False) w W1:=by rw[hW1];exact(Off.refl _ w).alloc _
 have g1:W1.heap[w.heap.size]?=some (.cells #[.int .u64 (wd p 0),.int .u64 (wd p 1),.int .u64 (wd p 2),.int .u64 (wd p 3)] 63):=by rw[hW1];exact heap_new' rfl _
 have hh1:RefP W1 b bs S:=HH.out.keep hO1
 have HW1:=hid hW1
 have HO1:=hid hO1
 have HG1:=hid g1
 have HR1:=hid hh1
 have HBl:=hid hlt
 have HS:=hid hS
 have HSw:=hid hSw
 have HSm:=hid hsm
 have HKl:=hid (show 64*k<=bs.length/\bs.length<=100000 by omega)
 have HPp:=hid hp
 have HP1:=hid h1p
 have i0:¬(q:Int)<(k:Int):=hfew
 have i1:¬(k:Int)<0:=hneg
 have hk2:k<=2000:=by omega
 clear hW1 hO1 g1 hh1 g0 hc0 hb0 hS hSw hsm hl hN hq hfew hneg hp h1p
 go_enter Tryz.func80,Tryz.ntmps80
 go_wp2
 rw[<-HW1.out]
 clear hlt
 go_loopw [8,9] (fun v i wr=>∃ m:Nat,m<=k/\i=.int .i64 m/\(∃ a c,v=.slice a m c/\wr.ownsRow W1.heap.size 63 4 v m (flat4 ((elsK bs m).map (·%p))))/\RefP wr b (bs.drop (64*m)) S/\Off (fun j=>j=b) W1 wr) (fun _ i _=>k-(intOf i).toNat)
 case atStart=>exact⟨0,Nat.zero_le _,rfl,⟨none,0,rfl,World.ownsRow_nil _ _ _ _⟩,HR1.out,Off.refl _ W1⟩
 case round =>
  obtain⟨m,hm,rfl,⟨va,vc,rfl,hov⟩,hRf,hO⟩:=hrel
  by_cases hlt:m<k
  ·have hb:=HBl.out
   have i2:(m:Int)<(k:Int):=by omega
   have w2:IntKind.i64.wrap ((m:Int)+1)=(m:Int)+1:=by rw[IntKind.wrap_i64];omega
   have hlen:(bs.drop (64*m)).length=bs.length-64*m:=List.length_drop
   have h64:64<=(bs.drop (64*m)).length:=by have:=HKl.out.1;omega
   have FT:=hid (reftake_any b (bs.drop (64*m)) S 64 (by decide) wr hRf HS.out)
   rw[show takeV (bs.drop (64*m)) 64=((bs.drop (64*m)).take 64,0,bs.drop (64*(m+1))) by rw[show(64:Int)=((64:Nat):Int) from rfl,takeV_ok h64,List.drop_drop,show 64*m+64=64*(m+1) by omega]]at FT
   have h6:((bs.drop (64*m)).take 64).length=64:=by rw[List.length_take];omega
   have FW:=hid (fun(W:World) (a:Option Addr) (c:Nat) (hc:64<=c) (hb:BsAt W a ((bs.drop (64*m)).take 64) S)=>refwide_any p HPp.out HP1.out a 64 c ((bs.drop (64*m)).take 64) S W hb h6.symm ((HSm.out.drop _).take _) hc)
   rw[show rwideV p ((bs.drop (64*m)).take 64)=(elB bs m%p,0) by unfold rwideV elB;rw[if_pos h6]]at FW
   obtain⟨z,hz⟩:∃ z,z=elB bs m%p:=⟨_,rfl⟩
   rw[<-hz]at FW
   have HFl:=hid (show flat4 ((elsK bs m).map (·%p))++words4 z=flat4 ((elsK bs (m+1)).map (·%p)) by rw[elsK_succ,List.map_append,flat4_append,hz];rfl)
   have HO:=hid hO
   have HOv:=hid hov
   have H6:=hid h6
   clear hO hov hRf hlen h64 h6 hz
   go_wp2_with fail
   refine FT.out.mono ?_
   rintro e u1 ⟨a1,m1,c1,rfl,hm1,hc1,hb1,hR1,hO1⟩
   obtain rfl:m1=64:=hm1.trans H6.out
   have HB1:=hid hb1
   have HRf1:=hid hR1
   have HO1':=hid (HO.out.trans hO1 (fun _ _ e=>e))
   have HOv1:=hid (own_offS HOv.out hO1 (fun j hj e=>by have:=HO1.out.size;omega))
   obtain⟨p0,p1,p2,p3⟩:=cells4 (HO1'.out.heap HG1.out (by omega))
   have hltp:=heap_lt (HO1'.out.heap HG1.out (by omega))
   clear hb1 hR1 hO1 hm1
   go_wp2_with fail
   refine(FW.out _ _ _ hc1 HB1.out).mono ?_
   rintro e u2 ⟨rfl,hO2⟩
   have HRf2:=hid (HRf1.out.keep hO2)
   have HO2:=hid (HO1'.out.trans hO2 (fun _ _ c=>c.elim))
   have HOv2:=hid (own_off HOv1.out hO2)
   have hs2:=hO2.size
   clear hO2 p0 p1 p2 p3 hltp
   go_wp2_with (at_builtin;refine wpList_append_own _ rfl _ _ 76 rfl W1.heap.size 63 j0 _ 4 32 Tryz.underlying76 hj hj0 hj1 hj2 rfl (by decide) _ m _ rfl ((HOv2.out.alloc _).alloc _) ⟨u2.heap.size+1,0,none⟩ 1 1 (words4 z) rfl rfl ?q1 (words4_one _) ?q2 ?q3 ?q4 ?_)
   case q1=>exact words4_at (heap_new' (by simp) _)
   case q2=>unfold maxLen;omega
   case q3=>omega
   case q4=>have:=HO2.out.size;have:=HO1.out.size;simp;omega
   intro v' w1 hown' hgrow hnil
   obtain⟨g6,c6,rfl⟩:=ownsRow_succ hown'
   rw[HFl.out]at hown'
   have hsz:=(HO2.out.alloc (.cells #[.int .u64 (wd z 0),.int .u64 (wd z 1),.int .u64 (wd z 2),.int .u64 (wd z 3)] 63)).alloc (.cells #[.int .u64 (wd z 0),.int .u64 (wd z 1),.int .u64 (wd z 2),.int .u64 (wd z 3)] 63)
   have hO3:=grown_offS hsz (Nat.le_refl _) ((HOv2.out.alloc _).alloc _) hgrow
   have hR3:=(HRf2.out.keep (((Off.refl (fun _=>False) u2).alloc (.cells #[.int .u64 (wd z 0),.int .u64 (wd z 1),.int .u64 (wd z 2),.int .u64 (wd z 3)] 63)).alloc (.cells #[.int .u64 (wd z 0),.int .u64 (wd z 1),.int .u64 (wd z 2),.int .u64 (wd z 3)] 63))).grow hgrow (fun j ej=>by
    have hx:=(((HOv2.out.alloc (.cells #[.int .u64 (wd z 0),.int .u64 (wd z 1),.int .u64 (wd z 2),.int .u64 (wd z 3)] 63)).alloc (.cells #[.int .u64 (wd z 0),.int .u64 (wd z 1),.int .u64 (wd z 2),.int .u64 (wd z 3)] 63)).lt j ej).1
    have:=HO1.out.size
    exact⟨by omega,fun hc=>by have:=HSw.out j hc;omega⟩)
   have HR3:=hid hR3
   have HO3:=hid hO3
   have HOv3:=hid hown'
   clear hR3 hO3 hown' hgrow hsz
   go_wp2
   go_roundw
   case rel=>exact⟨m+1,by omega,by simp,⟨_,_,rfl,HOv3.out⟩,HR3.out,HO3.out⟩
   case measure=>simp[intOf];omega
  obtain rfl:m=k:=by omega
  have i2:¬(m:Int)<(m:Int):=by omega
  have hfin:=Ls.of (ls_of_own hov (by rw[List.length_map,elsK_length]) (by omega))
  have HO:=hid hO
  have HRf:=hid hRf
  have HLs:=hid hfin
  clear hO hRf hfin hov
  go_wp2
  exact bodyPost_ret (v:=.tuple #[.slice va m vc,.int .i64 0]) (by simp[results,Tryz.results80,go_sem]) rfl ⟨_,rfl,HLs.out,HRf.out,(HO1.out.mono (fun _ _ c=>c.elim)).trans HO.out (fun _ _ e=>e)⟩
end
section

def Pms.val (q:Pms):Value:=.agg #[.int .i64 q.fd,.int .i64 q.th,.int .i64 q.sh,.int .i64 q.ln]
def Pms.ok (q:Pms):Prop:=I64 q.fd/\I64 q.th/\I64 q.sh/\I64 q.ln
end
section
open Go.RowKit Go.ChangeShapes Go.WideShapes Go.ChangeAt Go.Deep
theorem cells_pms:Tryz.prog.cellsOf 51=4:=by kernel_rfl
end
section
open Go.RowKit
attribute [local go_sem ↓] Go.wp_at_zero Go.wp_at_succ
set_option maxRecDepth 100000
set_option maxHeartbeats 4000000
theorem refprm_any (q:Pms) (w:World):Calls Tryz.prog 77 #[q.val] w fun e w'=>e=.returned (.int .i64 (prN q:Int))/\Off (fun _=>False) w w':=by
 obtain⟨fd,th,sh,ln⟩:=q
 have FK:=hid (fun W=>refknown_any fd W)
 obtain⟨r,hr⟩:∃ r,r=prN ⟨fd,th,sh,ln⟩:=⟨_,rfl⟩
 rw[<-hr]
 unfold Pms.val
 unfold prN at hr
 dsimp only at hr ⊢
 by_cases hk:Kn fd
 ·rw[if_neg (fun h=>h hk)]at hr
  rw[show decide (Kn fd)=true from decide_eq_true hk]at FK
  by_cases hA:sh<1
  ·obtain rfl:r=5:=by rw[hr,if_pos (.inl hA)]
   clear hr
   go_enter Tryz.func77,Tryz.ntmps77
   go_wp2_with fail
   refine(FK.out _).mono ?_
   rintro e u ⟨rfl,rfl⟩
   go_wp2
   go_ret
   exact⟨rfl,(Off.refl _ w).alloc _⟩
  by_cases hB:255<sh
  ·obtain rfl:r=5:=by rw[hr,if_pos (.inr hB)]
   clear hr
   go_enter Tryz.func77,Tryz.ntmps77
   go_wp2_with fail
   refine(FK.out _).mono ?_
   rintro e u ⟨rfl,rfl⟩
   go_wp2
   go_ret
   exact⟨rfl,(Off.refl _ w).alloc _⟩
  rw[if_neg (fun h=>h.elim hA hB)]at hr
  have c2a:=hA
  have c2b:=hB
  clear hA hB
  by_cases hA:th<1
  ·obtain rfl:r=4:=by rw[hr,if_pos (.inl hA)]
   clear hr
   go_enter Tryz.func77,Tryz.ntmps77
   go_wp2_with fail
   refine(FK.out _).mono ?_
   rintro e u ⟨rfl,rfl⟩
   go_wp2
   go_ret
   exact⟨rfl,(Off.refl _ w).alloc _⟩
  by_cases hB:sh<th
  ·obtain rfl:r=4:=by rw[hr,if_pos (.inr hB)]
   clear hr
   go_enter Tryz.func77,Tryz.ntmps77
   go_wp2_with fail
   refine(FK.out _).mono ?_
   rintro e u ⟨rfl,rfl⟩
   go_wp2
   go_ret
   exact⟨rfl,(Off.refl _ w).alloc _⟩
  rw[if_neg (fun h=>h.elim hA hB)]at hr
  have c1a:=hA
  have c1b:=hB
  clear hA hB
  by_cases hA:ln<0
  ·obtain rfl:r=6:=by rw[hr,if_pos (.inl hA)]
   clear hr
   go_enter Tryz.func77,Tryz.ntmps77
   go_wp2_with fail
   refine(FK.out _).mono ?_
   rintro e u ⟨rfl,rfl⟩
   go_wp2
   go_ret
   exact⟨rfl,(Off.refl _ w).alloc _⟩
  by_cases hB:65535<ln
  ·obtain rfl:r=6:=by rw[hr,if_pos (.inr hB)]
   clear hr
   go_enter Tryz.func77,Tryz.ntmps77
   go_wp2_with fail
   refine(FK.out _).mono ?_
   rintro e u ⟨rfl,rfl⟩
   go_wp2
   go_ret
   exact⟨rfl,(Off.refl _ w).alloc _⟩
  rw[if_neg (fun h=>h.elim hA hB)]at hr
  have c0a:=hA
  have c0b:=hB
  clear hA hB
  obtain rfl:r=0:=hr
  go_enter Tryz.func77,Tryz.ntmps77
  go_wp2_with fail
  refine(FK.out _).mono ?_
  rintro e u ⟨rfl,rfl⟩
  go_wp2
  go_ret
  exact⟨rfl,(Off.refl _ w).alloc _⟩
 obtain rfl:r=3:=by rw[hr,if_pos hk]
 rw[show decide (Kn fd)=false from decide_eq_false hk]at FK
 clear hr hk
 go_enter Tryz.func77,Tryz.ntmps77
 go_wp2_with fail
 refine(FK.out _).mono ?_
 rintro e u ⟨rfl,rfl⟩
 go_wp2
 go_ret
 exact⟨rfl,(Off.refl _ w).alloc _⟩
theorem refrandom_any (q:Pms) (hq:q.ok) (w:World):Calls Tryz.prog 78 #[q.val] w fun e w'=>e=.returned (.int .i64 (rndN q))/\Off (fun _=>False) w w':=by
 have FC:=hid (fun W=>refprm_any q W)
 obtain⟨c,hc⟩:∃ c,c=prN q:=⟨_,rfl⟩
 have hx:c=0->1<=q.th/\q.th<=255:=fun h=>by
  rw[hc]at h
  unfold prN at h
  split at h
  ·exact absurd h (by decide)
  split at h
  ·exact absurd h (by decide)
  split at h
  ·exact absurd h (by decide)
  omega
 have hR:rndN q=if c=0 then 64*(q.th-1)*(cntI q.ln:Int) else 0:=by unfold rndN;rw[hc]
 rw[<-hc]at FC
 obtain⟨r,hr⟩:∃ r,r=rndN q:=⟨_,rfl⟩
 rw[<-hr]at hR ⊢
 have FN:=hid (fun W=>refcount_any q.ln hq.2.2.2 W)
 have hcb:cntI q.ln<=2200:=by unfold cntI cntN;split <;> omega
 obtain⟨fd,th,sh,ln⟩:=q
 unfold Pms.val at FC ⊢
 dsimp only at FC FN hx hR hcb ⊢
 obtain⟨k,hk⟩:∃ k,k=cntI ln:=⟨_,rfl⟩
 rw[<-hk]at FN hR hcb
 by_cases h0:c=0
 ·subst h0
  rw[if_pos rfl]at hR
  obtain⟨x1,x2⟩:=hx rfl
  have q1:IntKind.i64.wrap (th-1)=th-1:=by rw[IntKind.wrap_i64];omega
  have q2:IntKind.i64.wrap (64*(th-1))=64*(th-1):=by rw[IntKind.wrap_i64];omega
  have q3:IntKind.i64.wrap (64*(th-1)*(k:Int))=r:=by
   obtain⟨m,hm⟩:∃ m:Nat,th-1=(m:Int):=Int.eq_ofNat_of_zero_le (by omega)
   have hmk:64*m*k<=64*255*2200:=Nat.mul_le_mul (by omega) hcb
   have e:64*(th-1)*(k:Int)=((64*m*k:Nat):Int):=by rw[hm];push_cast;rfl
   rw[hR,e,IntKind.wrap_i64]
   omega
  obtain⟨W0,hW0⟩:∃ W0,W0=w.alloc (.cells #[.int .i64 fd,.int .i64 th,.int .i64 sh,.int .i64 ln] 51):=⟨_,rfl⟩
  have g0:W0.heap[w.heap.size]?=some (.cells #[.int .i64 fd,.int .i64 th,.int .i64 sh,.int .i64 ln] 51 (0,0)):=by rw[hW0];exact heap_new' rfl _
  have HW0:=hid hW0
  have HO0:=hid (show Off (fun _=>False) w W0 by rw[hW0];exact(Off.refl _ w).alloc _)
  have HG0:=hid g0
  clear hW0 g0 hk hc hx hr hR hq hcb
  go_enter Tryz.func78,Tryz.ntmps78
  go_wp2_with fail
  rw[<-HW0.out]
  refine(FC.out _).mono ?_
  rintro e u ⟨rfl,hO⟩
  obtain⟨wq,hwq⟩:∃ wq,wq=u:=⟨_,rfl⟩
  rw[<-hwq]at hO ⊢
  have HG1:=hid (hO.heap HG0.out (fun c=>c))
  have HO1:=hid (HO0.out.trans hO (fun _ _ c=>c))
  clear hO hwq FC
  go_upto_region 3 with fail
  obtain⟨x6,hx⟩:∃ x:Value,x=.pointer (some ⟨w.heap.size,1,none⟩):=⟨_,rfl⟩
  have X6:=hid hx
  clear hx
  obtain⟨x7,hx⟩:∃ x:Value,x=.int .i64 th:=⟨_,rfl⟩
  have X7:=hid hx
  clear hx
  obtain⟨x8,hx⟩:∃ x:Value,x=.int .i64 (th-1):=⟨_,rfl⟩
  have X8:=hid hx
  clear hx
  obtain⟨x9,hx⟩:∃ x:Value,x=.int .i64 (64*(th-1)):=⟨_,rfl⟩
  have X9:=hid hx
  clear hx
  obtain⟨x10,hx⟩:∃ x:Value,x=.pointer (some ⟨w.heap.size,3,none⟩):=⟨_,rfl⟩
  have X10:=hid hx
  clear hx
  obtain⟨x11,hx⟩:∃ x:Value,x=.int .i64 ln:=⟨_,rfl⟩
  have X11:=hid hx
  clear hx
  obtain⟨x12,hx⟩:∃ x:Value,x=.int .i64 k:=⟨_,rfl⟩
  have X12:=hid hx
  clear hx
  obtain⟨x13,hx⟩:∃ x:Value,x=.int .i64 r:=⟨_,rfl⟩
  have X13:=hid hx
  clear hx
  obtain⟨x2,hx⟩:∃ x:Value,x=.int .i64 r:=⟨_,rfl⟩
  have X2:=hid hx
  clear hx
  refine wp_region_inv (fun a0 l a' w'=>a'=(Act.put (fill a0 6 [sel (l 0) x6 undef,sel (l 1) x7 undef,sel (l 2) x8 undef,sel (l 3) x9 undef,sel (l 4) x10 undef,sel (l 5) x11 undef,sel (l 6) x12 undef,sel (l 7) x13 undef]) (some 2) (sel (l 8) x2 (.int .i64 0)))/\Off (fun _=>False) wq w') (by kernel_rfl) (by kernel_rfl) ?_ ⟨?_,?_,?_,?_,?_,?_,?_,?_,?_,trivial⟩ ?_
  ·refine⟨?_,(Off.refl _ wq).drew⟩
   simp only[XF,XP,sel_start]
  all_goals try (rintro l a wr ⟨ha,hO⟩ hl hd K' hK)
  ·as_aux_lemma =>
    have hx:=X6.out;subst hx
    simp only[XF,XP]at ha
    subst ha
    have hlq:=heap_lt (hO.heap HG1.out (fun c=>c))
    rw[if_pos (by rfl)]
    go_simp
    refine hK.out _ _ ⟨?_,hO⟩
    simp only[XF,XP,sel_new]
    rfl
  ·as_aux_lemma =>
    have d0:=hd 0 (by decide)
    have hx:=X6.out;subst hx
    have hx:=X7.out;subst hx
    simp only[XF,XP,sel_of d0]at ha
    subst ha
    have p0:=cell_of_heap (hO.heap HG1.out (fun c=>c)) 1
    rw[if_pos (by rfl)]
    go_simp
    refine hK.out _ _ ⟨?_,hO⟩
    simp only[XF,XP,sel_new,sel_dep d0]
    rfl
  ·as_aux_lemma =>
    have d1:=hd 1 (by decide)
    have hx:=X7.out;subst hx
    have hx:=X8.out;subst hx
    simp only[XF,XP,sel_of d1]at ha
    subst ha
    rw[if_pos (by rfl)]
    go_simp
    refine hK.out _ _ ⟨?_,hO⟩
    simp only[XF,XP,sel_new,sel_dep d1]
    rfl
  ·as_aux_lemma =>
    have d2:=hd 2 (by decide)
    have hx:=X8.out;subst hx
    have hx:=X9.out;subst hx
    simp only[XF,XP,sel_of d2]at ha
    subst ha
    rw[if_pos (by rfl)]
    go_simp
    refine hK.out _ _ ⟨?_,hO⟩
    simp only[XF,XP,sel_new,sel_dep d2]
    rfl
  ·as_aux_lemma =>
    have hx:=X10.out;subst hx
    simp only[XF,XP]at ha
    subst ha
    have hlq:=heap_lt (hO.heap HG1.out (fun c=>c))
    rw[if_pos (by rfl)]
    go_simp
    refine hK.out _ _ ⟨?_,hO⟩
    simp only[XF,XP,sel_new]
    rfl
  ·as_aux_lemma =>
    have d4:=hd 4 (by decide)
    have hx:=X10.out;subst hx
    have hx:=X11.out;subst hx
    simp only[XF,XP,sel_of d4]at ha
    subst ha
    have p0:=cell_of_heap (hO.heap HG1.out (fun c=>c)) 3
    rw[if_pos (by rfl)]
    go_simp
    refine hK.out _ _ ⟨?_,hO⟩
    simp only[XF,XP,sel_new,sel_dep d4]
    rfl
  ·as_aux_lemma =>
    have d5:=hd 5 (by decide)
    have hx:=X11.out;subst hx
    have hx:=X12.out;subst hx
    simp only[XF,XP,sel_of d5]at ha
    subst ha
    rw[if_pos (by rfl)]
    go_simp
    refine(held_inv (FN.out wr) hO).mono ?_
    rintro e w1 ⟨rfl,hO1,hOW⟩
    go_wp2_with fail
    refine hK.out _ _ ⟨?_,hO1⟩
    simp only[XF,XP,sel_new,sel_dep d5]
    rfl
  ·as_aux_lemma =>
    have d3:=hd 3 (by decide)
    have d6:=hd 6 (by decide)
    have hx:=X9.out;subst hx
    have hx:=X12.out;subst hx
    have hx:=X13.out;subst hx
    simp only[XF,XP,sel_of d3,sel_of d6]at ha
    subst ha
    rw[if_pos (by rfl)]
    go_simp
    refine hK.out _ _ ⟨?_,hO⟩
    simp only[XF,XP,sel_new,sel_dep d3,sel_dep d6]
    rfl
  ·as_aux_lemma =>
    have d7:=hd 7 (by decide)
    have hx:=X13.out;subst hx
    have hx:=X2.out;subst hx
    simp only[XF,XP,sel_of d7]at ha
    subst ha
    rw[if_pos (by rfl)]
    go_simp
    refine hK.out _ _ ⟨?_,hO⟩
    simp only[XF,XP,sel_new,sel_dep d7]
    rfl
  rintro l a wc ⟨ha,hO⟩ hd
  simp only[XF,XP,sel_of (hd 0 (by decide)),sel_of (hd 1 (by decide)),sel_of (hd 2 (by decide)),sel_of (hd 3 (by decide)),sel_of (hd 4 (by decide)),sel_of (hd 5 (by decide)),sel_of (hd 6 (by decide)),sel_of (hd 7 (by decide)),sel_of (hd 8 (by decide))]at ha
  subst ha
  have hx:=X2.out;subst hx
  have HOe:=hid (HO1.out.trans hO (fun _ _ c=>c))
  clear hO hd
  go_wp2
  go_ret
  exact⟨rfl,HOe.out⟩
 rw[if_neg h0]at hR
 subst hR
 have i1:¬((c:Int)=0):=by omega
 clear hk hc hx hr hq hcb
 go_enter Tryz.func78,Tryz.ntmps78
 go_wp2_with fail
 refine(FC.out _).mono ?_
 rintro e u ⟨rfl,hO⟩
 have HO:=hid (((Off.refl (fun _=>False) w).alloc _).trans hO (fun _ _ c=>c))
 clear hO
 go_wp2
 go_ret
 exact⟨rfl,HO.out⟩
end
section
open Go.RowKit Go.ChangeShapes Go.WideShapes Go.ChangeAt Go.Deep
set_option maxRecDepth 100000 in
theorem params_of_trod {H:Type} {enc:TypeId × Value->H} {w:World} {spare:Nat->Bool} {held:Bool} {fuel:Nat} {cs:List Value} {x:DataW H × List MemPlace} (h:DataW.trod enc Tryz.prog w 0 spare held fuel 51 cs=some x) :
  ∃ q:Pms,q.ok/\cs=[.int .i64 q.fd,.int .i64 q.th,.int .i64 q.sh,.int .i64 q.ln]:=by
 obtain⟨xs,n,_,_,hl,hlen,hfs⟩:=DataW.trod_struct Tryz.underlying51 h
 rw[cells_pms]at hl
 match cs,hl with
 | [c0,c1,c2,c3],_ =>
  match xs,hlen with
  | [y0,y1,y2,y3],_ =>
   have g0:DataW.trod enc Tryz.prog w 0 spare held n 3 ([c0,c1,c2,c3].drop 0 |>.take (Tryz.prog.cellsOf 3))=[y0,y1,y2,y3][0]?:=hfs 0 _ rfl
   have g1:DataW.trod enc Tryz.prog w 0 spare held n 3 ([c0,c1,c2,c3].drop 1 |>.take (Tryz.prog.cellsOf 3))=[y0,y1,y2,y3][1]?:=hfs 1 _ rfl
   have g2:DataW.trod enc Tryz.prog w 0 spare held n 3 ([c0,c1,c2,c3].drop 2 |>.take (Tryz.prog.cellsOf 3))=[y0,y1,y2,y3][2]?:=hfs 2 _ rfl
   have g3:DataW.trod enc Tryz.prog w 0 spare held n 3 ([c0,c1,c2,c3].drop 3 |>.take (Tryz.prog.cellsOf 3))=[y0,y1,y2,y3][3]?:=hfs 3 _ rfl
   rw[cells_i1]at g0 g1 g2 g3
   have t0:DataW.trod enc Tryz.prog w 0 spare held n 3 [c0]=some y0:=g0
   have t1:DataW.trod enc Tryz.prog w 0 spare held n 3 [c1]=some y1:=g1
   have t2:DataW.trod enc Tryz.prog w 0 spare held n 3 [c2]=some y2:=g2
   have t3:DataW.trod enc Tryz.prog w 0 spare held n 3 [c3]=some y3:=g3
   obtain⟨n0,e0,_,q0⟩:=DataW.trod_int Tryz.underlying3 t0
   obtain⟨n1,e1,_,q1⟩:=DataW.trod_int Tryz.underlying3 t1
   obtain⟨n2,e2,_,q2⟩:=DataW.trod_int Tryz.underlying3 t2
   obtain⟨n3,e3,_,q3⟩:=DataW.trod_int Tryz.underlying3 t3
   simp at e0 e1 e2 e3
   subst e0 e1 e2 e3
   exact⟨⟨n0,n1,n2,n3⟩,⟨q0,q1,q2,q3⟩,rfl⟩
theorem list_six {α:Type} (l:List α) (h:(⟨l⟩:Array α).size=6):∃ a b c d e f,l=[a,b,c,d,e,f]:=by
 match l,h with
 | [a,b,c,d,e,f],_=>exact⟨a,b,c,d,e,f,rfl⟩
theorem cells_sec:Tryz.prog.cellsOf 54=6:=by kernel_rfl
theorem cells_by1:Tryz.prog.cellsOf 52=1:=by kernel_rfl
set_option maxRecDepth 100000 in
theorem open_secret {H:Type} {enc:TypeId × Value->H} {W:World} {r:Reach} {base:Nat} {sp:Nat->Bool} {held:Bool} {v:Value} {d:DataW H} {p:List MemPlace}
  (hok:Value.okWide Tryz.prog W r base 54 v) (h:DataW.Trod enc Tryz.prog W 0 sp held 54 v d p) :
  ∃ (q:Pms) (a:Option Addr) (n cap:Nat) (bs:List Nat) (b:Option Addr) (m dap:Nat) (ys:List Nat),(q.ok/\n=bs.length/\n<=cap/\Small bs/\BsAt W a bs (fun k=>k<W.heap.size)/\m=ys.length/\m<=dap/\Small ys/\BsAt W b ys (fun k=>k<W.heap.size)) /\
   v=.agg #[.int .i64 q.fd,.int .i64 q.th,.int .i64 q.sh,.int .i64 q.ln,.slice a n cap,.slice b m dap]:=by
 obtain⟨cs,rfl,hsz⟩:=okWide_struct Tryz.underlying54 hok
 rw[cells_sec]at hsz
 obtain⟨l⟩:=cs
 obtain⟨c0,c1,c2,c3,c4,c5,rfl⟩:=list_six l hsz
 obtain⟨fuel,hf⟩:=h
 have hf':DataW.trod enc Tryz.prog W 0 sp held fuel 54 [c0,c1,c2,c3,c4,c5]=some (d,p):=hf
 obtain⟨xs,n,_,_,hl,hlen,hfs⟩:=DataW.trod_struct Tryz.underlying54 hf'
 match xs,hlen with
 | [y0,y1,y2],_ =>
  have g0:DataW.trod enc Tryz.prog W 0 sp held n 51 ([c0,c1,c2,c3,c4,c5].drop 0 |>.take (Tryz.prog.cellsOf 51))=[y0,y1,y2][0]?:=hfs 0 _ rfl
  have g1:DataW.trod enc Tryz.prog W 0 sp held n 52 ([c0,c1,c2,c3,c4,c5].drop 4 |>.take (Tryz.prog.cellsOf 52))=[y0,y1,y2][1]?:=hfs 1 _ rfl
  have g2:DataW.trod enc Tryz.prog W 0 sp held n 52 ([c0,c1,c2,c3,c4,c5].drop 5 |>.take (Tryz.prog.cellsOf 52))=[y0,y1,y2][2]?:=hfs 2 _ rfl
  rw[cells_pms]at g0
  rw[cells_by1]at g1 g2
  have t0:DataW.trod enc Tryz.prog W 0 sp held n 51 [c0,c1,c2,c3]=some y0:=g0
  have t1:DataW.trod enc Tryz.prog W 0 sp held n 52 [c4]=some y1:=g1
  have t2:DataW.trod enc Tryz.prog W 0 sp held n 52 [c5]=some y2:=g2
  obtain⟨q,hq,e⟩:=params_of_trod t0
  simp at e
  obtain⟨rfl,rfl,rfl,rfl⟩:=e
  obtain⟨a,an,ac,rfl⟩:=slice_of_trod' Tryz.underlying52 t1
  obtain⟨b,bn,bc,rfl⟩:=slice_of_trod' Tryz.underlying52 t2
  obtain⟨bs,h1,h2,h3,h4⟩:=bytes_of_trod t1
  obtain⟨ys,h5,h6,h7,h8⟩:=bytes_of_trod t2
  exact⟨q,a,an,ac,bs,b,bn,bc,ys,⟨hq,h1,h2,h3,h4,h5,h6,h7,h8⟩,rfl⟩
end
section

theorem cntI_len {q:Pms} {sec:List Nat} (h:(sec.length:Int)=q.ln) (h2:q.ln<=65535):q.cn=cntN sec.length:=by
 unfold Pms.cn cntI
 rw[if_pos (by omega),<-h,Int.toNat_natCast]
end
section
open Go.RowKit
attribute [local go_sem ↓] Go.wp_at_zero Go.wp_at_succ
set_option maxRecDepth 100000
set_option maxHeartbeats 4000000
theorem RowS.off {B:Nat} {W W':World} {v:Value} {L:List ShV} (h:RowS B W v L) (ho:Off (fun _=>False) W W'):RowS B W' v L:=own_off h ho
theorem RowS.base {B B':Nat} {W:World} {v:Value} {L:List ShV} (h:RowS B W v L) (hb:B'<=B):RowS B' W v L :=
 ⟨h.1,h.2.imp id (fun⟨g,cap,cur,e,hB,r⟩=>⟨g,cap,cur,e,Nat.le_trans hb hB,r⟩)⟩
end
section
open Go.RowKit
attribute [local go_sem ↓] Go.wp_at_zero Go.wp_at_succ
set_option maxRecDepth 100000
set_option maxHeartbeats 4000000
def lrg16 (q:Pms) (m1 m2:Nat):Nat:=if (200:Int)<(m1:Int)\/(10000:Int)<(m2:Int)\/(12<q.sh/\70<q.ln)\/(12<q.th/\300<IntKind.i64.wrap (q.sh*q.ln)) then 1 else 0
theorem lrg16_cases (q:Pms) (m1 m2:Nat):lrg16 q m1 m2=0\/lrg16 q m1 m2=1:=by unfold lrg16;split <;> simp
theorem lrg16_zero {q:Pms} {m1 m2:Nat} (h:lrg16 q m1 m2=0):m1<=200/\m2<=10000/\(12<q.sh->q.ln<=70)/\(12<q.th->IntKind.i64.wrap (q.sh*q.ln)<=300):=by
 unfold lrg16 at h
 have hn:¬((200:Int)<(m1:Int)\/(10000:Int)<(m2:Int)\/(12<q.sh/\70<q.ln)\/(12<q.th/\300<IntKind.i64.wrap (q.sh*q.ln))):=fun c=>by rw[if_pos c]at h;exact absurd h (by decide)
 omega
theorem large16_any (q:Pms) (a1 a2:Option Addr) (m1 m2 c1 c2:Nat) (w:World):Calls Tryz.prog 26 #[q.val,.slice a1 m1 c1,.slice a2 m2 c2] w fun e w'=>e=.returned (.int .i64 (lrg16 q m1 m2:Int))/\Off (fun _=>False) w w':=by
 obtain⟨fd,th,sh,ln⟩:=q
 obtain⟨pr,hpr⟩:∃ pr,pr=IntKind.i64.wrap (sh*ln):=⟨_,rfl⟩
 have hpr2:=hpr.symm
 unfold Pms.val
 dsimp only
 by_cases hA:(200:Int)<(m1:Int)
 ·have qA:decide ((200:Int)<(m1:Int))=true:=decide_eq_true hA
  have hr:lrg16 ⟨fd,th,sh,ln⟩ m1 m2=1:=by unfold lrg16;dsimp only;rw[<-hpr];exact if_pos (by omega)
  rw[hr]
  clear hr hpr
  go_enter Tryz.func26,Tryz.ntmps26
  go_wp2
  go_ret
  exact⟨rfl,(Off.refl _ w).alloc _⟩
 by_cases hB:(10000:Int)<(m2:Int)
 ·have qA:decide ((200:Int)<(m1:Int))=false:=decide_eq_false hA
  have qB:decide ((10000:Int)<(m2:Int))=true:=decide_eq_true hB
  have hr:lrg16 ⟨fd,th,sh,ln⟩ m1 m2=1:=by unfold lrg16;dsimp only;rw[<-hpr];exact if_pos (by omega)
  rw[hr]
  clear hr hpr
  go_enter Tryz.func26,Tryz.ntmps26
  go_wp2
  go_ret
  exact⟨rfl,(Off.refl _ w).alloc _⟩
 by_cases hC:12<sh
 ·by_cases hD:70<ln
  ·have qA:decide ((200:Int)<(m1:Int))=false:=decide_eq_false hA
   have qB:decide ((10000:Int)<(m2:Int))=false:=decide_eq_false hB
   have qC:decide (12<sh)=true:=decide_eq_true hC
   have qD:decide (70<ln)=true:=decide_eq_true hD
   have hr:lrg16 ⟨fd,th,sh,ln⟩ m1 m2=1:=by unfold lrg16;dsimp only;rw[<-hpr];exact if_pos (by omega)
   rw[hr]
   clear hr hpr
   go_enter Tryz.func26,Tryz.ntmps26
   go_wp2
   go_ret
   exact⟨rfl,(Off.refl _ w).alloc _⟩
  by_cases hE:12<th
  ·by_cases hF:300<pr
   ·have qA:decide ((200:Int)<(m1:Int))=false:=decide_eq_false hA
    have qB:decide ((10000:Int)<(m2:Int))=false:=decide_eq_false hB
    have qC:decide (12<sh)=true:=decide_eq_true hC
    have qD:decide (70<ln)=false:=decide_eq_false hD
    have qE:decide (12<th)=true:=decide_eq_true hE
    have qF:decide (300<pr)=true:=decide_eq_true hF
    have hr:lrg16 ⟨fd,th,sh,ln⟩ m1 m2=1:=by unfold lrg16;dsimp only;rw[<-hpr];exact if_pos (by omega)
    rw[hr]
    clear hr hpr
    go_enter Tryz.func26,Tryz.ntmps26
    go_wp2
    go_ret
    exact⟨rfl,(Off.refl _ w).alloc _⟩
   have qA:decide ((200:Int)<(m1:Int))=false:=decide_eq_false hA
   have qB:decide ((10000:Int)<(m2:Int))=false:=decide_eq_false hB
   have qC:decide (12<sh)=true:=decide_eq_true hC
   have qD:decide (70<ln)=false:=decide_eq_false hD
   have qE:decide (12<th)=true:=decide_eq_true hE
   have qF:decide (300<pr)=false:=decide_eq_false hF
   have hr:lrg16 ⟨fd,th,sh,ln⟩ m1 m2=0:=by unfold lrg16;dsimp only;rw[<-hpr];exact if_neg (by omega)
   rw[hr]
   clear hr hpr
   go_enter Tryz.func26,Tryz.ntmps26
   go_wp2
   go_ret
   exact⟨rfl,(Off.refl _ w).alloc _⟩
  have qA:decide ((200:Int)<(m1:Int))=false:=decide_eq_false hA
  have qB:decide ((10000:Int)<(m2:Int))=false:=decide_eq_false hB
  have qC:decide (12<sh)=true:=decide_eq_true hC
  have qD:decide (70<ln)=false:=decide_eq_false hD
  have qE:decide (12<th)=false:=decide_eq_false hE
  have hr:lrg16 ⟨fd,th,sh,ln⟩ m1 m2=0:=by unfold lrg16;dsimp only;rw[<-hpr];exact if_neg (by omega)
  rw[hr]
  clear hr hpr
  go_enter Tryz.func26,Tryz.ntmps26
  go_wp2
  go_ret
  exact⟨rfl,(Off.refl _ w).alloc _⟩
 by_cases hE:12<th
 ·by_cases hF:300<pr
  ·have qA:decide ((200:Int)<(m1:Int))=false:=decide_eq_false hA
   have qB:decide ((10000:Int)<(m2:Int))=false:=decide_eq_false hB
   have qC:decide (12<sh)=false:=decide_eq_false hC
   have qE:decide (12<th)=true:=decide_eq_true hE
   have qF:decide (300<pr)=true:=decide_eq_true hF
   have hr:lrg16 ⟨fd,th,sh,ln⟩ m1 m2=1:=by unfold lrg16;dsimp only;rw[<-hpr];exact if_pos (by omega)
   rw[hr]
   clear hr hpr
   go_enter Tryz.func26,Tryz.ntmps26
   go_wp2
   go_ret
   exact⟨rfl,(Off.refl _ w).alloc _⟩
  have qA:decide ((200:Int)<(m1:Int))=false:=decide_eq_false hA
  have qB:decide ((10000:Int)<(m2:Int))=false:=decide_eq_false hB
  have qC:decide (12<sh)=false:=decide_eq_false hC
  have qE:decide (12<th)=true:=decide_eq_true hE
  have qF:decide (300<pr)=false:=decide_eq_false hF
  have hr:lrg16 ⟨fd,th,sh,ln⟩ m1 m2=0:=by unfold lrg16;dsimp only;rw[<-hpr];exact if_neg (by omega)
  rw[hr]
  clear hr hpr
  go_enter Tryz.func26,Tryz.ntmps26
  go_wp2
  go_ret
  exact⟨rfl,(Off.refl _ w).alloc _⟩
 have qA:decide ((200:Int)<(m1:Int))=false:=decide_eq_false hA
 have qB:decide ((10000:Int)<(m2:Int))=false:=decide_eq_false hB
 have qC:decide (12<sh)=false:=decide_eq_false hC
 have qE:decide (12<th)=false:=decide_eq_false hE
 have hr:lrg16 ⟨fd,th,sh,ln⟩ m1 m2=0:=by unfold lrg16;dsimp only;rw[<-hpr];exact if_neg (by omega)
 rw[hr]
 clear hr hpr
 go_enter Tryz.func26,Tryz.ntmps26
 go_wp2
 go_ret
 exact⟨rfl,(Off.refl _ w).alloc _⟩
end
section
open Go.RowKit
attribute [local go_sem ↓] Go.wp_at_zero Go.wp_at_succ
set_option maxRecDepth 100000
set_option maxHeartbeats 4000000
def polsV (q:Pms) (p:Nat) (sec rnd:List Nat) (k:Nat):List (List Nat):=(List.range k).map fun i=>(polN q sec rnd i).map (·%p)
theorem polsV_succ (q:Pms) (p:Nat) (sec rnd:List Nat) (k:Nat):polsV q p sec rnd (k+1)=polsV q p sec rnd k++[(polN q sec rnd k).map (·%p)]:=by simp[polsV,List.range_succ]
theorem polsV_length (q:Pms) (p:Nat) (sec rnd:List Nat) (k:Nat):(polsV q p sec rnd k).length=k:=by simp[polsV]
theorem pol_bound {id:Int} (h:Kn id):256^31<modN id:=by
 rcases h with rfl | rfl
 ·decide
 decide
theorem own_baseP {w:World} {B B' size n:Nat} {T:TypeId} {v:Value} {xs:List Value} (h:w.ownsRow B T size v n xs) (hb:B'<=B):w.ownsRow B' T size v n xs :=
 ⟨h.1,h.2.imp id (fun⟨g,cap,cur,e,hB,r⟩=>⟨g,cap,cur,e,Nat.le_trans hb hB,r⟩)⟩
theorem i64_nat {n:Nat} (h:n<=1000):(Lit.int .i64 n).wf=true:=WalkArith.wf_i64 (by omega)
theorem refpols_any (q:Pms) (hq:q.ok) (a1 a2:Option Addr) (m1 m2 c1 c2:Nat) (sec rnd:List Nat) (S:Nat->Prop) (w:World) (hS:∀ k,S k->k<w.heap.size) (hm1:m1=sec.length) (hm2:m2=rnd.length) (hc1:m1<=c1) (hc2:m2<=c2) (hs1:Small sec) (hs2:Small rnd) (hl1:m1<=5000) (hl2:m2<=100000)
  (h1:BsAt w a1 sec S) (h2:BsAt w a2 rnd S) :
  Calls Tryz.prog 50 #[q.val,.slice a1 m1 c1,.slice a2 m2 c2] w fun e w'=>∃ v,e=.returned (.tuple #[v,.int .i64 (polE q sec rnd:Int)])/\LLs w' v (if polE q sec rnd=0 then polsV q (modN q.fd) sec rnd q.cn else [])/\Off (fun _=>False) w w':=by
 have FC:=hid (fun W=>refprm_any q W)
 have FR:=hid (fun W=>refrandom_any q hq W)
 have FM:=hid (fun W=>mod_modulus q.fd W)
 obtain⟨c,hc⟩:∃ c,c=prN q:=⟨_,rfl⟩
 obtain⟨r,hr⟩:∃ r,r=rndN q:=⟨_,rfl⟩
 rw[<-hc]at FC
 rw[<-hr]at FR
 have hE:polE q sec rnd=if c≠0 then c else if (m1:Int)≠q.ln then 8 else if (m2:Int)<r then 7 else 0:=by unfold polE;rw[hc,hr,hm1,hm2]
 by_cases h0:c=0
 ·by_cases hln:(m1:Int)=q.ln
  ·by_cases hrn:(m2:Int)<r
   ·have e1:decide ((m2:Int)<r)=true:=decide_eq_true hrn
    rw[hE,if_neg (by simp[h0]),if_neg (by simp[hln]),if_pos hrn,if_neg (by decide)]
    subst h0
    obtain⟨fd,th,sh,ln⟩:=q
    dsimp only at hln
    have e2:((m1:Int) != ln)=false:=by simp[hln]
    clear hln
    unfold Pms.val at FC FR ⊢
    dsimp only at FC FR ⊢
    clear hE hc hr hq h1 h2 hs1 hs2 hm1 hm2 FM hS
    go_enter Tryz.func50,Tryz.ntmps50
    go_wp2_with fail
    refine(FC.out _).mono ?_
    rintro e u1 ⟨rfl,hO⟩
    have hO1:=((Off.refl (fun _=>False) w).alloc (.cells #[.int .i64 fd,.int .i64 th,.int .i64 sh,.int .i64 ln] 51)).trans hO (fun _ _ c=>c)
    have g1:=hO.heap (heap_new' (w:=w) rfl (.cells #[.int .i64 fd,.int .i64 th,.int .i64 sh,.int .i64 ln] 51)) (fun c=>c)
    have HO1:=hid hO1
    have HG1:=hid g1
    clear hO hO1
    have p0:=cell_of_heap HG1.out 0
    have p1:=cell_of_heap HG1.out 1
    have p2:=cell_of_heap HG1.out 2
    have p3:=cell_of_heap HG1.out 3
    have lp:=heap_lt HG1.out
    clear g1
    go_wp2_with fail
    refine(FR.out _).mono ?_
    rintro e u2 ⟨rfl,hO⟩
    have HO2:=hid (HO1.out.trans hO (fun _ _ c=>c))
    clear hO p0 p1 p2 p3 lp
    go_wp2
    exact bodyPost_ret (v:=.tuple #[.slice none 0 0,.int .i64 7]) (by simp[results,Tryz.results50,go_sem]) rfl ⟨_,rfl,LLs.nil _,HO2.out⟩
   have hok:=prN_ok (hc.symm.trans h0)
   have hp0:polE q sec rnd=0:=by rw[hE,if_neg (by simp[h0]),if_neg (by simp[hln]),if_neg hrn]
   have hby:=(polE_ok hp0).2.2
   rw[hp0,if_pos rfl]
   have hpos:=modN_pos hok.1
   have hpb:=pol_bound hok.1
   have hcn:q.cn=cntN m1:=by rw[hm1];exact cntI_len (by rw[<-hm1];exact hln) hok.2.2.2.2.2.2
   obtain⟨p,hp⟩:∃ p,p=modN q.fd:=⟨_,rfl⟩
   rw[<-hp]at FM hpos hpb ⊢
   obtain⟨cn,hcn2⟩:∃ cn,cn=q.cn:=⟨_,rfl⟩
   obtain⟨n1,hn1⟩:∃ n1,n1=q.T-1:=⟨_,rfl⟩
   have hth:q.th=(n1:Int)+1:=by rw[hn1];unfold Pms.T;omega
   have hn255:n1<=255:=by omega
   rw[<-hcn2,<-hn1]at hby
   rw[<-hcn2]at hcn ⊢
   have hcn7:cn<=200:=by rw[hcn];unfold cntN;omega
   have FS:=hid (fun W (h:Off (fun _=>False) w W)=>refsplit_any a1 m1 c1 sec S W (h1.off h (fun _ _ _ c=>c)) hm1 hc1 hs1 (by omega))
   rw[<-hcn]at FS
   have HPV:=hid (show ∀ k,(polN q sec rnd k).map (·%p)=numB (chk sec k)::(elsK (rnd.drop (64*(n1*k))) n1).map (·%p) from fun k=>by
    unfold polN
    rw[<-hn1,List.map_cons]
    congr 1
    exact Nat.mod_eq_of_lt (Nat.lt_trans (chk_num_lt hs1 k) hpb))
   have HSV:=hid (show ∀ k,k<cn->(splitV sec)[k]?=some (numB (chk sec k)) from fun k hk=>by unfold splitV;rw[<-hm1,<-hcn];exact splitK_get sec hk)
   have hsvl:(splitV sec).length=cn:=by rw[splitV_length,<-hm1,hcn]
   have HX:=hid (show ∀ k,numB (chk sec k)<R256 from fun k=>Nat.lt_trans (Nat.lt_trans (chk_num_lt hs1 k) hpb) hpos.2)
   have hq1:q.fd=q.fd:=rfl
   have e1:decide ((m2:Int)<r)=false:=decide_eq_false hrn
   subst h0
   obtain⟨fd,th,sh,ln⟩:=q
   dsimp only at hln hth FM
   have e2:((m1:Int) != ln)=false:=by simp[hln]
   unfold Pms.val at FC FR ⊢
   dsimp only at FC FR ⊢
   have w1':IntKind.i64.wrap (th-1)=(n1:Int):=by rw[IntKind.wrap_i64];omega
   have HS:=hid hS
   have HS2:=hid hs2
   have H2:=hid h2
   have HM2:=hid hm2
   have HC2:=hid hc2
   have HBY:=hid hby
   have HPos:=hid hpos
   have HSVL:=hid hsvl
   clear hE hc hr hq h1 h2 hs1 hs2 hm1 hm2 hS hok hp0 hby hpb hp hcn hcn2 hn1 hq1 hln hth hrn hpos hsvl hc1 hc2
   go_enter Tryz.func50,Tryz.ntmps50
   go_wp2_with fail
   refine(FC.out _).mono ?_
   rintro e u1 ⟨rfl,hO⟩
   have hO1:=((Off.refl (fun _=>False) w).alloc (.cells #[.int .i64 fd,.int .i64 th,.int .i64 sh,.int .i64 ln] 51)).trans hO (fun _ _ c=>c)
   have g1:=hO.heap (heap_new' (w:=w) rfl (.cells #[.int .i64 fd,.int .i64 th,.int .i64 sh,.int .i64 ln] 51)) (fun c=>c)
   have HO1:=hid hO1
   have HG1:=hid g1
   clear hO hO1
   have p0:=cell_of_heap HG1.out 0
   have p1:=cell_of_heap HG1.out 1
   have p2:=cell_of_heap HG1.out 2
   have p3:=cell_of_heap HG1.out 3
   have lp:=heap_lt HG1.out
   clear g1
   go_wp2_with fail
   refine(FR.out _).mono ?_
   rintro e u2 ⟨rfl,hO⟩
   have HO2:=hid (HO1.out.trans hO (fun _ _ c=>c))
   have HG2:=hid (hO.heap HG1.out (fun c=>c))
   clear hO p0 p1 p2 p3 lp
   go_wp2_with fail
   refine(FS.out _ HO2.out).mono ?_
   rintro e u3 ⟨al,cl,rfl,hown,hO⟩
   have HO3:=hid (HO2.out.trans hO (fun _ _ c=>c))
   have HG3:=hid (hO.heap HG2.out (fun c=>c))
   have HLs3:=hid (show LsAt u3 (.slice al cn cl) (splitV sec) (fun k=>k<u3.heap.size) from(ls_of_own hown HSVL.out.symm (by omega)).mono (fun k hk _=>hk))
   clear hO hown
   obtain⟨w1,hw1⟩:∃ w1,w1=u3.alloc (.cells #[.slice a2 m2 c2] 125):=⟨_,rfl⟩
   have hA:Off (fun _=>False) u3 w1:=by rw[hw1];exact(Off.refl _ u3).alloc _
   obtain⟨sb,hsb⟩:∃ sb,sb=u3.heap.size:=⟨_,rfl⟩
   have gs:w1.heap[sb]?=some (.cells #[.slice a2 m2 c2] 125 (0,0)):=by rw[hw1];exact heap_new' hsb.symm _
   have hO1':Off (fun _=>False) w w1:=HO3.out.trans hA (fun _ _ c=>c)
   have hR1:RefP w1 sb rnd S:=by
    have h2:=H2.out.off hO1' (fun _ _ _ c=>c)
    exact⟨a2,c2,by rw[<-HM2.out];exact gs,by rw[<-HM2.out];exact HC2.out,h2⟩
   have HLs:=hid (show LsAt w1 (.slice al cn cl) (splitV sec) (fun k=>k<sb) by rw[hsb];exact HLs3.out.off hA (fun _ _ _ c=>c))
   have HR1:=hid hR1
   have HG:=hid (hA.heap HG3.out (fun c=>c))
   have HO4:=hid hO1'
   have HSB:=hid (show w.heap.size<sb/\sb<w1.heap.size from⟨by rw[hsb];exact heap_lt HG3.out,heap_lt gs⟩)
   have HW1:=hid hw1
   have HSb:=hid hsb
   clear hA gs hO1' hR1 hw1 hsb HLs3 HG3 HG2 HG1 HO1 HO2 HO3
   go_wp2
   rw[<-HW1.out,<-HSb.out]
   go_loopw [12,13] (fun v j wr=>∃ k:Nat,k<=cn/\j=.int .i64 k/\RowLL 63 76 w1.heap.size wr v (polsV ⟨fd,th,sh,ln⟩ p sec rnd k)/\RefP wr sb (rnd.drop (64*(n1*k))) S/\Off (fun j=>j=sb) w1 wr) (fun _ j _=>cn-(intOf j).toNat)
   case atStart=>exact⟨0,Nat.zero_le _,rfl,RowLL.nil _ _ _ _,by simpa using HR1.out,Off.refl _ _⟩
   case round =>
    obtain⟨k,hk,rfl,hr,hs,hO⟩:=hrel
    obtain⟨wq,hwq⟩:∃ wq,wq=wr:=⟨_,rfl⟩
    subst hwq
    by_cases hlt:k<cn
    ·obtain⟨es,hes⟩:∃ es,es=(elsK (rnd.drop (64*(n1*k))) n1).map (·%p):=⟨_,rfl⟩
     obtain⟨rest,hrest⟩:∃ rest,rest=rnd.drop (64*(n1*(k+1))):=⟨_,rfl⟩
     have hlen:64*n1<=(rnd.drop (64*(n1*k))).length:=by
      rw[List.length_drop]
      have h1:=HBY.out
      have h2:n1*(k+1)<=n1*cn:=Nat.mul_le_mul_left _ hlt
      rw[Nat.mul_succ]at h2
      omega
     have FE:=hid (fun W (h:Off (fun _=>False) wq W)=>by
      have h3:=refels_any p HPos.out.2 HPos.out.1 sb (rnd.drop (64*(n1*k))) S (n1:Int) (i64_nat (by omega)) W (hs.keep h) (fun k' hk' e=>by have:=HS.out k' hk';have:=HSB.out;omega) (fun k' hk'=>by have:=HS.out k' hk';have:=HSB.out;have:=hO.size;have:=h.size;omega) (HS2.out.drop _) (by rw[List.length_drop,<-HM2.out];omega)
      rw[elemsV_ok hlen,List.drop_drop,show 64*(n1*k)+64*n1=64*(n1*(k+1)) by rw[Nat.mul_succ];omega,<-hrest,<-hes]at h3
      exact h3)
     have HG:=hid (hO.heap HG.out (fun e=>by have:=HSB.out;omega))
     have HRq:=hid hr
     have HO:=hid hO
     have HES:=hid hes
     have HRest:=hid hrest
     have HKb:=hid (show k<cn/\cn<=200 from⟨hlt,hcn7⟩)
     have hesl:es.length=n1:=by rw[hes,List.length_map,elsK_length]
     have HESl:=hid hesl
     have hkc:(k:Int)<(cn:Int):=by omega
     clear hr hs hO hes hrest hlen hesl hk
     go_upto_region 14 with fail
     obtain⟨x46,hx⟩:∃ vv:Value,vv=.pointer (some ⟨sb,0,none⟩):=⟨_,rfl⟩
     have X46:=hid hx
     clear hx
     obtain⟨x47,hx⟩:∃ vv:Value,vv=.pointer (some ⟨w.heap.size,0,none⟩):=⟨_,rfl⟩
     have X47:=hid hx
     clear hx
     obtain⟨x48,hx⟩:∃ vv:Value,vv=.int .i64 fd:=⟨_,rfl⟩
     have X48:=hid hx
     clear hx
     obtain⟨x49,hx⟩:∃ vv:Value,vv=V p:=⟨_,rfl⟩
     have X49:=hid hx
     clear hx
     obtain⟨x50,hx⟩:∃ vv:Value,vv=.pointer (some ⟨w.heap.size,1,none⟩):=⟨_,rfl⟩
     have X50:=hid hx
     clear hx
     obtain⟨x51,hx⟩:∃ vv:Value,vv=.int .i64 th:=⟨_,rfl⟩
     have X51:=hid hx
     clear hx
     obtain⟨x52,hx⟩:∃ vv:Value,vv=.int .i64 n1:=⟨_,rfl⟩
     have X52:=hid hx
     clear hx
     obtain⟨x55,hx⟩:∃ vv:Value,vv=.int .i64 0:=⟨_,rfl⟩
     have X55:=hid hx
     clear hx
     obtain⟨x15,hx⟩:∃ vv:Value,vv=.int .i64 0:=⟨_,rfl⟩
     have X15:=hid hx
     clear hx
     refine wp_region_clo (fun a0 l a' w'=>∃ (ve:Value),a'=(Act.put (Act.put (fill a0 45 [sel (l 8) (.tuple #[ve,.int .i64 0]) (u45),sel (l 0) x46 (u46),sel (l 1) x47 (u47),sel (l 2) x48 (u48),sel (l 3) x49 (u49),sel (l 4) x50 (u50),sel (l 5) x51 (u51),sel (l 6) x52 (u52),sel (l 7) (.tuple #[ve,.int .i64 0]) (u53),sel (l 9) (ve) (u54),sel (l 10) x55 (u55),u56,u57,u58,u59,u60,u61,u62,u63,u64,u65,undef]) (some 14) (sel (l 11) (ve) (u14))) (some 15) (sel (l 12) x15 (u15)))/\(l 7=false->Off (fun _=>False) wq w')/\(l 7=true->Ls w' ve es/\RefP w' sb rest S/\Off (fun j=>j=sb) wq w')) (by kernel_rfl) (by kernel_rfl) ?_ ⟨?_,?_,?_,?_,?_,?_,?_,?_,?_,?_,?_,?_,?_,trivial⟩ ?_
     ·refine⟨undef,?_,fun _=>(Off.refl _ wq).drew,fun h=>by cases h⟩
      simp only[XF,XP,sel_start]
      try rfl
     all_goals try (rintro l a wr ⟨ve,ha,hA,hB⟩ hc hl hd K' hK)
     ·as_aux_lemma =>
       have hx:=X46.out;subst hx
       have gF:l 7=false:=hc.not (i:=7) hl 13 (by kernel_rfl)
       have hO:=hA gF
       have GF:=hid gF
       clear gF hA hB
       simp only[XF,XP]at ha
       subst ha
       rw[if_pos (by rfl)]
       go_simp
       refine Shut.out hK _ _ ⟨ve,?_,fun _=>hO,fun h=>absurd (show(true:Bool)=false from(show l 7=true by rwa [upd_ne l (by decide)]at h).symm.trans GF.out) (by decide)⟩
       simp only[XF,XP,sel_new]
       try rfl
     ·as_aux_lemma =>
       have hx:=X47.out;subst hx
       have gF:l 7=false:=hc.not (i:=7) hl 13 (by kernel_rfl)
       have hO:=hA gF
       have GF:=hid gF
       clear gF hA hB
       simp only[XF,XP]at ha
       subst ha
       have hlq:=heap_lt (hO.heap HG.out (fun c=>c))
       rw[if_pos (by rfl)]
       go_simp
       refine Shut.out hK _ _ ⟨ve,?_,fun _=>hO,fun h=>absurd (show(true:Bool)=false from(show l 7=true by rwa [upd_ne l (by decide)]at h).symm.trans GF.out) (by decide)⟩
       simp only[XF,XP,sel_new]
       try rfl
     ·as_aux_lemma =>
       have d1:=hd 1 (by decide)
       have hx:=X47.out;subst hx
       have hx:=X48.out;subst hx
       have gF:l 7=false:=hc.not (i:=7) hl 13 (by kernel_rfl)
       have hO:=hA gF
       have GF:=hid gF
       clear gF hA hB
       simp only[XF,XP,sel_of d1]at ha
       subst ha
       have p0:=cell_of_heap (hO.heap HG.out (fun c=>c)) 0
       rw[if_pos (by rfl)]
       go_simp
       refine Shut.out hK _ _ ⟨ve,?_,fun _=>hO,fun h=>absurd (show(true:Bool)=false from(show l 7=true by rwa [upd_ne l (by decide)]at h).symm.trans GF.out) (by decide)⟩
       simp only[XF,XP,sel_new,sel_dep d1]
       try rfl
     ·as_aux_lemma =>
       have d2:=hd 2 (by decide)
       have hx:=X48.out;subst hx
       have hx:=X49.out;subst hx
       have gF:l 7=false:=hc.not (i:=7) hl 13 (by kernel_rfl)
       have hO:=hA gF
       have GF:=hid gF
       clear gF hA hB
       simp only[XF,XP,sel_of d2]at ha
       subst ha
       rw[if_pos (by rfl)]
       go_simp
       refine(FM.out wr).mono ?_
       rintro e w1 ⟨rfl,hO1⟩
       go_wp2_with fail
       refine Shut.out hK _ _ ⟨ve,?_,fun _=>(hO.trans hO1 (fun _ _ c=>c)),fun h=>absurd (show(true:Bool)=false from(show l 7=true by rwa [upd_ne l (by decide)]at h).symm.trans GF.out) (by decide)⟩
       simp only[XF,XP,sel_new,sel_dep d2]
       try rfl
     ·as_aux_lemma =>
       have hx:=X50.out;subst hx
       have gF:l 7=false:=hc.not (i:=7) hl 13 (by kernel_rfl)
       have hO:=hA gF
       have GF:=hid gF
       clear gF hA hB
       simp only[XF,XP]at ha
       subst ha
       have hlq:=heap_lt (hO.heap HG.out (fun c=>c))
       rw[if_pos (by rfl)]
       go_simp
       refine Shut.out hK _ _ ⟨ve,?_,fun _=>hO,fun h=>absurd (show(true:Bool)=false from(show l 7=true by rwa [upd_ne l (by decide)]at h).symm.trans GF.out) (by decide)⟩
       simp only[XF,XP,sel_new]
       try rfl
     ·as_aux_lemma =>
       have d4:=hd 4 (by decide)
       have hx:=X50.out;subst hx
       have hx:=X51.out;subst hx
       have gF:l 7=false:=hc.not (i:=7) hl 13 (by kernel_rfl)
       have hO:=hA gF
       have GF:=hid gF
       clear gF hA hB
       simp only[XF,XP,sel_of d4]at ha
       subst ha
       have p0:=cell_of_heap (hO.heap HG.out (fun c=>c)) 1
       rw[if_pos (by rfl)]
       go_simp
       refine Shut.out hK _ _ ⟨ve,?_,fun _=>hO,fun h=>absurd (show(true:Bool)=false from(show l 7=true by rwa [upd_ne l (by decide)]at h).symm.trans GF.out) (by decide)⟩
       simp only[XF,XP,sel_new,sel_dep d4]
       try rfl
     ·as_aux_lemma =>
       have d5:=hd 5 (by decide)
       have hx:=X51.out;subst hx
       have hx:=X52.out;subst hx
       have gF:l 7=false:=hc.not (i:=7) hl 13 (by kernel_rfl)
       have hO:=hA gF
       have GF:=hid gF
       clear gF hA hB
       simp only[XF,XP,sel_of d5]at ha
       subst ha
       rw[if_pos (by rfl)]
       go_simp
       refine Shut.out hK _ _ ⟨ve,?_,fun _=>hO,fun h=>absurd (show(true:Bool)=false from(show l 7=true by rwa [upd_ne l (by decide)]at h).symm.trans GF.out) (by decide)⟩
       simp only[XF,XP,sel_new,sel_dep d5]
       try rfl
     ·as_aux_lemma =>
       have d0:=hd 0 (by decide)
       have d3:=hd 3 (by decide)
       have d6:=hd 6 (by decide)
       have hx:=X46.out;subst hx
       have hx:=X49.out;subst hx
       have hx:=X52.out;subst hx
       have gF:l 7=false:=hl
       have hO:=hA gF
       have GF:=hid gF
       clear gF hA hB
       have g8:=hc.not (i:=8) hl 13 (by kernel_rfl)
       have g9:=hc.not (i:=9) hl 13 (by kernel_rfl)
       have g10:=hc.not (i:=10) hl 13 (by kernel_rfl)
       have g11:=hc.not (i:=11) hl 13 (by kernel_rfl)
       have g12:=hc.not (i:=12) hl 13 (by kernel_rfl)
       simp only[XF,XP,sel_of d0,sel_of d3,sel_of d6,sel_no g8,sel_no g9,sel_no g10,sel_no g11,sel_no g12,sel_no hl]at ha
       subst ha
       have G8:=hid g8
       clear g8
       have G9:=hid g9
       clear g9
       have G10:=hid g10
       clear g10
       have G11:=hid g11
       clear g11
       have G12:=hid g12
       clear g12
       rw[if_pos (by rfl)]
       go_simp
       refine(FE.out wr hO).mono ?_
       rintro e w1 ⟨ve',rfl,hP1⟩
       go_wp2_with fail
       refine Shut.out hK _ _ ⟨ve',?_,fun h=>absurd h (by rw[upd_same];decide),fun _=>⟨hP1.1,hP1.2.1,(hO.mono (fun _ _ c=>c.elim)).trans hP1.2.2 (fun _ _ e=>e)⟩⟩
       simp only[XF,XP,sel_new,sel_dep d0,sel_dep d3,sel_dep d6,sel_no (show upd l 7 8=false by rw[upd_ne l (by decide)];exact G8.out),sel_no (show upd l 7 9=false by rw[upd_ne l (by decide)];exact G9.out),sel_no (show upd l 7 10=false by rw[upd_ne l (by decide)];exact G10.out),sel_no (show upd l 7 11=false by rw[upd_ne l (by decide)];exact G11.out),sel_no (show upd l 7 12=false by rw[upd_ne l (by decide)];exact G12.out)]
       try rfl
     ·as_aux_lemma =>
       have d7:=hd 7 (by decide)
       simp only[XF,XP,sel_of d7]at ha
       subst ha
       rw[if_pos (by rfl)]
       go_simp
       refine Shut.out hK _ _ ⟨ve,?_,fun h=>absurd (show(true:Bool)=false from d7.symm.trans (show l 7=false by rwa [upd_ne l (by decide)]at h)) (by decide),fun _=>hB d7⟩
       simp only[XF,XP,sel_new,sel_dep d7]
       try rfl
     ·as_aux_lemma =>
       have d8:=hd 8 (by decide)
       have d7:=hc.up 13 8 7 d8 (by kernel_rfl)
       simp only[XF,XP,sel_of d8,sel_of d7]at ha
       subst ha
       rw[if_pos (by rfl)]
       go_simp
       refine Shut.out hK _ _ ⟨ve,?_,fun h=>absurd (show(true:Bool)=false from d7.symm.trans (show l 7=false by rwa [upd_ne l (by decide)]at h)) (by decide),fun _=>hB d7⟩
       simp only[XF,XP,sel_new,sel_dep d8,sel_dep d7]
       try rfl
     ·as_aux_lemma =>
       have d8:=hd 8 (by decide)
       have hx:=X55.out;subst hx
       have d7:=hc.up 13 8 7 d8 (by kernel_rfl)
       simp only[XF,XP,sel_of d8,sel_of d7]at ha
       subst ha
       rw[if_pos (by rfl)]
       go_simp
       refine Shut.out hK _ _ ⟨ve,?_,fun h=>absurd (show(true:Bool)=false from d7.symm.trans (show l 7=false by rwa [upd_ne l (by decide)]at h)) (by decide),fun _=>hB d7⟩
       simp only[XF,XP,sel_new,sel_dep d8,sel_dep d7]
       try rfl
     ·as_aux_lemma =>
       have d9:=hd 9 (by decide)
       have d7:=hc.up 13 9 7 d9 (by kernel_rfl)
       simp only[XF,XP,sel_of d9,sel_of d7]at ha
       subst ha
       rw[if_pos (by rfl)]
       go_simp
       refine Shut.out hK _ _ ⟨ve,?_,fun h=>absurd (show(true:Bool)=false from d7.symm.trans (show l 7=false by rwa [upd_ne l (by decide)]at h)) (by decide),fun _=>hB d7⟩
       simp only[XF,XP,sel_new,sel_dep d9,sel_dep d7]
       try rfl
     ·as_aux_lemma =>
       have d10:=hd 10 (by decide)
       have hx:=X55.out;subst hx
       have hx:=X15.out;subst hx
       have d7:=hc.up 13 10 7 d10 (by kernel_rfl)
       simp only[XF,XP,sel_of d10,sel_of d7]at ha
       subst ha
       rw[if_pos (by rfl)]
       go_simp
       refine Shut.out hK _ _ ⟨ve,?_,fun h=>absurd (show(true:Bool)=false from d7.symm.trans (show l 7=false by rwa [upd_ne l (by decide)]at h)) (by decide),fun _=>hB d7⟩
       simp only[XF,XP,sel_new,sel_dep d10,sel_dep d7]
       try rfl
     rintro l a wc ⟨ve,ha,hA,hB⟩ hd
     simp only[XF,XP,sel_of (hd 0 (by decide)),sel_of (hd 1 (by decide)),sel_of (hd 2 (by decide)),sel_of (hd 3 (by decide)),sel_of (hd 4 (by decide)),sel_of (hd 5 (by decide)),sel_of (hd 6 (by decide)),sel_of (hd 7 (by decide)),sel_of (hd 8 (by decide)),sel_of (hd 9 (by decide)),sel_of (hd 10 (by decide)),sel_of (hd 11 (by decide)),sel_of (hd 12 (by decide))]at ha
     subst ha
     have hPP:=hB (hd 7 (by decide))
     clear hA hB
     obtain⟨hv,hs,hO⟩:=hPP
     obtain⟨va,vc,rfl,_⟩:=id hv
     rw[HESl.out]
     obtain⟨x,hx⟩:∃ x,x=numB (chk sec k):=⟨_,rfl⟩
     have hOw:=HO.out.trans hO (fun _ _ e=>e)
     obtain⟨lb,lo,rfl,_,p0,p1,p2,p3⟩:=(HLs.out.off hOw (fun j _ hj e=>by omega)).get (HSV.out k HKb.out.1)
     rw[<-hx]at p0 p1 p2 p3
     obtain⟨wz,hwz⟩:∃ wz,wz=wc:=⟨_,rfl⟩
     rw[<-hwz]at hv hs hO hOw p0 p1 p2 p3 ⊢
     clear hwz hd
     have hlb:=World.block_lt_of_cell? wz _ p0
     obtain⟨W1,hW1⟩:∃ W1,W1=wz.alloc (.cells #[.int .u64 (wd x 0),.int .u64 (wd x 1),.int .u64 (wd x 2),.int .u64 (wd x 3)] 63):=⟨_,rfl⟩
     have hB1:w1.heap.size<=wz.heap.size:=hOw.size
     have hr1:W1.ownsRow wz.heap.size 63 4 (.slice (some ⟨wz.heap.size,0,none⟩) 1 1) [x].length (flat4 [x]):=by rw[hW1];exact World.ownsRow_lit wz #[.int .u64 (wd x 0),.int .u64 (wd x 1),.int .u64 (wd x 2),.int .u64 (wd x 3)] 1 (Nat.le_refl _) (by decide) rfl
     have hA1:Off (fun _=>False) wz W1:=by rw[hW1];exact(Off.refl _ wz).alloc _
     have hv1:LsAt W1 (.slice va n1 vc) es (fun _=>True):=by have h:=hv.off hA1;rw[HESl.out]at h;exact h
     obtain⟨v2,w2,hrun,hr2,hg2⟩:=app_vec hr1 hA1.size hv1 (by have:=HESl.out;simp;omega)
     have hO2:Off (fun _=>False) wz w2:=grown_off hA1 (Nat.le_refl _) hr1 hg2
     obtain⟨zs,hzs⟩:∃ zs,zs=[x]++es:=⟨_,rfl⟩
     rw[<-hzs]at hr2
     obtain⟨v2a,v2c,rfl⟩:∃ a c,v2=.slice a zs.length c:=by
      rcases hr2.2 with ⟨rfl,hn⟩ | ⟨g,cap,cur,rfl,_⟩
      ·exact⟨none,0,by rw[hn]⟩
      exact⟨_,cap,rfl⟩
     obtain⟨W3,hW3⟩:∃ W3,W3=w2.alloc (.cells #[.slice v2a zs.length v2c] 76):=⟨_,rfl⟩
     have hA3:Off (fun _=>False) w2 W3:=by rw[hW3];exact(Off.refl _ w2).alloc _
     have hO3:Off (fun _=>False) wz W3:=hO2.trans hA3 (fun _ _ c=>c)
     have hll:RowLL 63 76 w1.heap.size W3 u12 (polsV ⟨fd,th,sh,ln⟩ p sec rnd k):=(HRq.out.off hO (fun j hj e=>by have:=HSB.out;omega)).off hO3 (fun _ _ c=>c)
     obtain⟨v4,w4,hrun4,hr4,hg4⟩:=app_ll (bz:=w2.heap.size) hll (Nat.le_trans hB1 hO3.size) (own_offT (own_baseP hr2 hB1) hA3 (fun _ _ c=>c)) (by rw[hW3];exact heap_new' rfl _) (by rw[polsV_length];have:=HKb.out;omega)
     have hgb:∀ g,u12.ownBlock=some g->w1.heap.size<=g:=fun g e=>by
      obtain⟨us,h3,_,_⟩:=hll
      exact(World.ownsRow.lt h3 g e).1
     have hO4:Off (fun j=>j=sb) w1 w4:=(hOw.trans hO3 (fun _ _ c=>c.elim)).grown hg4 (fun g e=>⟨fun h=>by have:=hgb g e;omega,fun o ho=>by
      obtain⟨us,h3,_,_⟩:=hll
      rcases h3.2 with ⟨e2,_⟩ | ⟨g2,cap,cur,e2,_,hgc,_⟩
      ·rw[e2]at e;simp[Value.ownBlock]at e
      rw[e2]at e;simp[Value.ownBlock]at e;subst e;rw[hgc]at ho;cases ho;rfl⟩)
     have hs4:RefP w4 sb rest S:=(hs.keep hO3).grow hg4 (fun j e=>⟨fun e2=>by have:=hgb j e;have:=HSB.out;omega,fun h=>by have:=hgb j e;have:=HS.out j h;have:=HSB.out;omega⟩)
     rw[hW1]at hrun
     rw[hW3]at hrun4
     have HRun:=hid hrun
     have HRun4:=hid hrun4
     have HR4:=hid (show RowLL 63 76 w1.heap.size w4 v4 (polsV ⟨fd,th,sh,ln⟩ p sec rnd (k+1)) by
      rw[polsV_succ,HPV.out k,<-hx,<-HES.out]
      rw[hzs]at hr4
      exact hr4)
     have HS4:=hid hs4
     have HO4':=hid hO4
     have w2':IntKind.i64.wrap ((k:Int)+1)=(k:Int)+1:=by rw[IntKind.wrap_i64];have:=HKb.out;omega
     clear hv hs hO hOw hx hW1 hB1 hr1 hA1 hv1 hrun hr2 hg2 hO2 hW3 hA3 hO3 hll hrun4 hr4 hg4 hgb hO4 hs4 hzs
     go_wp2_with first | (at_builtin;refine Go.Lib.wpList_append_run _ rfl _ _ _ _ rfl _ _ rfl rfl _ _ HRun.out ?_) | (at_builtin;refine Go.Lib.wpList_append_run _ rfl _ _ _ _ rfl _ _ rfl rfl _ _ HRun4.out ?_) | fail
     go_roundw
     case rel=>exact⟨k+1,by have:=HKb.out;omega,by simp,HR4.out,by rw[<-HRest.out];exact HS4.out,HO4'.out⟩
     case measure=>simp[intOf];have:=HKb.out;omega
    obtain rfl:cn=k:=by omega
    have hkk:¬(cn:Int)<(cn:Int):=by omega
    have HRf:=hid hr
    have HOf:=hid (HO4.out.trans hO (fun j hj e=>by have:=HSB.out;omega))
    clear hr hs hO hk hlt
    go_wp2
    refine bodyPost_ret (v:=.tuple #[u12,.int .i64 0]) (by simp[results,Tryz.results50,go_sem]) rfl ⟨_,rfl,HRf.out.lls (by rw[polsV_length];omega) (fun zs hz=>?_),HOf.out⟩
    obtain⟨i,_,rfl⟩:=List.mem_map.1 hz
    rw[HPV.out i,List.length_cons,List.length_map,elsK_length]
    omega

  have e2:((m1:Int) != q.ln)=true:=by simp[hln]
  rw[hE,if_neg (by simp[h0]),if_pos hln,if_neg (by decide)]
  subst h0
  obtain⟨fd,th,sh,ln⟩:=q
  dsimp only at hln e2
  unfold Pms.val at FC FR ⊢
  dsimp only at FC FR ⊢
  clear hE hc hr hq h1 h2 hs1 hs2 hm1 hm2 FM hS
  go_enter Tryz.func50,Tryz.ntmps50
  go_wp2_with fail
  refine(FC.out _).mono ?_
  rintro e u1 ⟨rfl,hO⟩
  have hO1:=((Off.refl (fun _=>False) w).alloc (.cells #[.int .i64 fd,.int .i64 th,.int .i64 sh,.int .i64 ln] 51)).trans hO (fun _ _ c=>c)
  have g1:=hO.heap (heap_new' (w:=w) rfl (.cells #[.int .i64 fd,.int .i64 th,.int .i64 sh,.int .i64 ln] 51)) (fun c=>c)
  have HO1:=hid hO1
  have HG1:=hid g1
  clear hO hO1
  have p0:=cell_of_heap HG1.out 0
  have p1:=cell_of_heap HG1.out 1
  have p2:=cell_of_heap HG1.out 2
  have p3:=cell_of_heap HG1.out 3
  have lp:=heap_lt HG1.out
  clear g1
  go_wp2
  exact bodyPost_ret (v:=.tuple #[.slice none 0 0,.int .i64 8]) (by simp[results,Tryz.results50,go_sem]) rfl ⟨_,rfl,LLs.nil _,HO1.out⟩
 have e1:¬((c:Int)=0):=by omega
 rw[hE,if_pos h0,if_neg h0]
 obtain⟨fd,th,sh,ln⟩:=q
 unfold Pms.val at FC FR ⊢
 dsimp only at FC FR ⊢
 clear hE hc hr hq h1 h2 hs1 hs2 hm1 hm2 FM hS h0
 go_enter Tryz.func50,Tryz.ntmps50
 go_wp2_with fail
 refine(FC.out _).mono ?_
 rintro e u1 ⟨rfl,hO⟩
 have hO1:=((Off.refl (fun _=>False) w).alloc (.cells #[.int .i64 fd,.int .i64 th,.int .i64 sh,.int .i64 ln] 51)).trans hO (fun _ _ c=>c)
 have g1:=hO.heap (heap_new' (w:=w) rfl (.cells #[.int .i64 fd,.int .i64 th,.int .i64 sh,.int .i64 ln] 51)) (fun c=>c)
 have HO1:=hid hO1
 have HG1:=hid g1
 clear hO hO1
 clear g1
 go_wp2
 exact bodyPost_ret (v:=.tuple #[.slice none 0 0,.int .i64 c]) (by simp[results,Tryz.results50,go_sem]) rfl ⟨_,rfl,LLs.nil _,HO1.out⟩
end
section
open Go.RowKit
attribute [local go_sem ↓] Go.wp_at_zero Go.wp_at_succ
set_option maxRecDepth 100000
set_option maxHeartbeats 4000000
theorem own_base5 {w:World} {B B' size n:Nat} {T:TypeId} {v:Value} {xs:List Value} (h:w.ownsRow B T size v n xs) (hb:B'<=B):w.ownsRow B' T size v n xs :=
 ⟨h.1,h.2.imp id (fun⟨g,cap,cur,e,hB,r⟩=>⟨g,cap,cur,e,Nat.le_trans hb hB,r⟩)⟩
theorem point16 (m:Nat) (hm:m<256) (w:World) :
  Calls Tryz.prog 72 #[.int .i64 m] w fun e w'=>e=.returned (V m)/\Off (fun _=>False) w w':=by
 have hwm:IntKind.u64.wrap (m:Int)=(m:Int):=by rw[IntKind.wrap_u64];omega
 have hs:=lit_small m (by omega)
 go_enter Tryz.func72,Tryz.ntmps72
 go_wp2
 rw[hs]
 refine bodyPost_ret (v:=.agg #[.int .u64 m,.int .u64 0,.int .u64 0,.int .u64 0]) (by simp[results,Tryz.results72,go_sem]) rfl ⟨rfl,?_⟩
 exact(Off.refl _ w).alloc _
theorem refpay_any (p:Nat) (hp:p<R256) (h1p:1<p) (cs:List (List Nat)) (hcs:∀ c∈cs,∀ x∈c,x<p) (i:Nat) (hi:i<256) (hip:i<p) (v:Value) (w:World) (hL:LLs w v cs) :
  Calls Tryz.prog 81 #[V p,v,.int .i64 i] w fun e w'=>∃ a2 c2,e=.returned (.slice a2 cs.length c2)/\w'.ownsRow w.heap.size 66 4 (.slice a2 cs.length c2) cs.length (flat4 (payN p cs i))/\Off (fun _=>False) w w':=by
 obtain⟨j0,hj,hj0,hj1,hj2⟩:=info_parts elem_info
 have hz:=hL
 obtain⟨a,cap,rfl,hm1,_⟩:=hz
 obtain⟨m,hm⟩:∃ m,m=cs.length:=⟨_,rfl⟩
 rw[<-hm]at hL hm1 ⊢
 obtain⟨w0,hw0⟩:∃ w0,w0=w.alloc (.cells #[.int .u64 (wd p 0),.int .u64 (wd p 1),.int .u64 (wd p 2),.int .u64 (wd p 3)] 63):=⟨_,rfl⟩
 have hO0:Off (fun _=>False) w w0:=by rw[hw0];exact(Off.refl _ w).alloc _
 have g0:w0.heap[w.heap.size]?=some (.cells #[.int .u64 (wd p 0),.int .u64 (wd p 1),.int .u64 (wd p 2),.int .u64 (wd p 3)] 63 (0,0)):=by rw[hw0];exact heap_new' rfl _
 have HL:=hid hL
 have HO0:=hid hO0
 have HG0:=hid g0
 have HM:=hid hm
 have HCS:=hid hcs
 have HW0:=hid hw0
 have FP:=hid (fun W=>point16 i hi W)
 clear hL hO0 g0 hm hcs hw0
 go_enter Tryz.func81,Tryz.ntmps81
 go_wp2
 rw[<-HW0.out]
 go_loopw [7,8] (fun u j wr=>∃ k:Nat,k<=m/\j=.int .i64 k/\(∃ a c2,u=.slice a k c2/\wr.ownsRow (w.heap.size+1) 66 4 u k (flat4 (payN p (cs.take k) i)))/\wr.heap[w.heap.size]?=some (.cells #[.int .u64 (wd p 0),.int .u64 (wd p 1),.int .u64 (wd p 2),.int .u64 (wd p 3)] 63 (0,0))/\Off (fun _=>False) w wr) (fun _ j _=>m-(intOf j).toNat)
 case atStart=>exact⟨0,Nat.zero_le _,rfl,⟨none,0,rfl,World.ownsRow_nil _ _ _ _⟩,HG0.out,HO0.out⟩
 case round =>
  obtain⟨k,hk,rfl,⟨va,vc,rfl,hov⟩,hg,hO⟩:=hrel
  obtain⟨wq,hwq⟩:∃ wq,wq=wr:=⟨_,rfl⟩
  subst hwq
  by_cases hlt:k<m
  ·obtain⟨c,hc⟩:∃ c,cs[k]?=some c:=⟨_,List.getElem?_eq_getElem (by rw[<-HM.out];exact hlt)⟩
   have hcp:=HCS.out c (List.mem_of_getElem? hc)
   obtain⟨b,off,a1,c1,rfl,_,u0,hl1⟩:=(LLsAt.get (HL.out.off hO) hc)
   obtain⟨n1,hn1⟩:∃ n1,n1=c.length:=⟨_,rfl⟩
   obtain⟨v,hv⟩:∃ v,v=pv c i%p:=⟨_,rfl⟩
   have FE:=hid (fun W (h:Off (fun _=>False) wq W)=>refeval_any hp h1p c hcp i hip (.slice a1 c.length c1) W ((Ls.of hl1).off h))
   rw[<-hn1]at u0
   rw[<-hn1,<-hv]at FE
   have hvR:v<R256:=by rw[hv];exact Nat.lt_trans (Nat.mod_lt _ (by omega)) hp
   obtain⟨z,hz⟩:∃ z,z=fm p v:=⟨_,rfl⟩
   have FF:=hid (fun W=>form_any p v hp h1p hvR W)
   rw[<-hz]at FF
   have HFl:=hid (show flat4 (payN p (cs.take k) i)++words4 z=flat4 (payN p (cs.take (k+1)) i) by
    rw[List.take_add_one,hc]
    unfold payN
    rw[List.map_append,flat4_append,hz,hv]
    rfl)
   have HK:Hid (∀ W,Off (fun _=>False) wq W->(W.cell? ⟨w.heap.size,0,none⟩=some (.int .u64 (wd p 0))/\W.cell? ⟨w.heap.size,1,none⟩=some (.int .u64 (wd p 1))/\W.cell? ⟨w.heap.size,2,none⟩=some (.int .u64 (wd p 2))/\W.cell? ⟨w.heap.size,3,none⟩=some (.int .u64 (wd p 3)))/\W.cell? ⟨b,off+k,none⟩=some (.slice a1 n1 c1)/\Off (fun _=>False) wq W) :=
    hid (fun W h=>⟨cells4 (h.heap hg (fun c=>c)),h.cell u0 (fun c=>c),h⟩)
   have HKb:=hid (show k+1<=1000/\k<m from⟨by omega,hlt⟩)
   have HO:=hid hO
   have HG:=hid hg
   have HOv:=hid hov
   have hkm:(k:Int)<(m:Int):=by omega
   have hHp:=hp
   clear hc hcp u0 hl1 hn1 hv hz hO hov hk hg
   go_upto_region 5 with fail
   refine wp_region_inv (fun a0 l a' w'=>∃ (u16:Value) (u17:Value) (u18:Value) (u19:Value) (u20:Value) (u21:Value) (u22:Value) (u23:Value) (u9:Value) (b9:Nat),a'=(Act.put (Act.put (Act.put (Act.put (Act.put (Act.put (Act.put (Act.put (Act.put a0 (some 16) u16) (some 17) u17) (some 18) u18) (some 19) u19) (some 20) u20) (some 21) u21) (some 22) u22) (some 23) u23) (some 9) u9)/\Slot l 0 u16 (V p)/\Slot l 1 u17 (.slice (some ⟨b,off,none⟩) m cap)/\Slot l 2 u18 (.int .i64 k)/\Slot l 3 u19 (.pointer (some ⟨b,off+k,none⟩))/\Slot l 4 u20 (.slice a1 n1 c1)/\Slot l 5 u21 (.int .i64 i)/\Slot l 6 u22 (V i)/\Slot l 7 u23 (V v)/\Blk l 8 9 u9 b9 wq w' (.cells #[.int .u64 0,.int .u64 0,.int .u64 0,.int .u64 0] 63) (.cells #[.int .u64 (wd v 0),.int .u64 (wd v 1),.int .u64 (wd v 2),.int .u64 (wd v 3)] 63)/\Off (fun _=>False) wq w') (by kernel_rfl) (by kernel_rfl) ?_ ⟨?_,?_,?_,?_,?_,?_,?_,?_,?_,?_,trivial⟩ ?_
   ·refine⟨?z16,?z17,?z18,?z19,?z20,?z21,?z22,?z23,?z9,0,?fr,Slot.start _ _ _,Slot.start _ _ _,Slot.start _ _ _,Slot.start _ _ _,Slot.start _ _ _,Slot.start _ _ _,Slot.start _ _ _,Slot.start _ _ _,Blk.start _ _ _ _ _ _ _ _,(Off.refl _ wq).drew⟩
    case fr=>first | (simp only[XP];rfl) | simp only[XP]
   all_goals try (intro l a wr hI hl hd K' hK;obtain⟨u16,u17,u18,u19,u20,u21,u22,u23,u9,b9,ha,s0,s1,s2,s3,s4,s5,s6,s7,B8,hO⟩:=hI;simp only[XP]at ha)
   ·subst ha
    have hc:=HK.out wr hO
    have p0:=hc.1.1
    have p1:=hc.1.2.1
    have p2:=hc.1.2.2.1
    have p3:=hc.1.2.2.2
    clear hc
    go_simp
    refine hK.out _ _ ⟨_,_,_,_,_,_,_,_,_,_,?_,Slot.new _ _ _,s1.keep rfl,s2.keep rfl,s3.keep rfl,s4.keep rfl,s5.keep rfl,s6.keep rfl,s7.keep rfl,B8.keep (Off.refl _ wr) rfl rfl,hO⟩
    simp only[XP]
   ·subst ha
    go_simp
    refine hK.out _ _ ⟨_,_,_,_,_,_,_,_,_,_,?_,s0.keep rfl,Slot.new _ _ _,s2.keep rfl,s3.keep rfl,s4.keep rfl,s5.keep rfl,s6.keep rfl,s7.keep rfl,B8.keep (Off.refl _ wr) rfl rfl,hO⟩
    simp only[XP]
   ·subst ha
    go_simp
    refine hK.out _ _ ⟨_,_,_,_,_,_,_,_,_,_,?_,s0.keep rfl,s1.keep rfl,Slot.new _ _ _,s3.keep rfl,s4.keep rfl,s5.keep rfl,s6.keep rfl,s7.keep rfl,B8.keep (Off.refl _ wr) rfl rfl,hO⟩
    simp only[XP]
   ·have q1:=s1 (hd 1 (by decide))
    have q2:=s2 (hd 2 (by decide))
    subst ha q1 q2
    go_simp
    refine hK.out _ _ ⟨_,_,_,_,_,_,_,_,_,_,?_,s0.keep rfl,s1.keep rfl,s2.keep rfl,Slot.new _ _ _,s4.keep rfl,s5.keep rfl,s6.keep rfl,s7.keep rfl,B8.keep (Off.refl _ wr) rfl rfl,hO⟩
    simp only[XP]
   ·have q3:=s3 (hd 3 (by decide))
    subst ha q3
    have hc:=HK.out wr hO
    have p0:=hc.2.1
    clear hc
    go_simp
    refine hK.out _ _ ⟨_,_,_,_,_,_,_,_,_,_,?_,s0.keep rfl,s1.keep rfl,s2.keep rfl,s3.keep rfl,Slot.new _ _ _,s5.keep rfl,s6.keep rfl,s7.keep rfl,B8.keep (Off.refl _ wr) rfl rfl,hO⟩
    simp only[XP]
   ·subst ha
    go_simp
    refine hK.out _ _ ⟨_,_,_,_,_,_,_,_,_,_,?_,s0.keep rfl,s1.keep rfl,s2.keep rfl,s3.keep rfl,s4.keep rfl,Slot.new _ _ _,s6.keep rfl,s7.keep rfl,B8.keep (Off.refl _ wr) rfl rfl,hO⟩
    simp only[XP]
   ·have q5:=s5 (hd 5 (by decide))
    subst ha q5
    go_simp
    refine(held_inv (FP.out wr) hO).mono ?_
    rintro e w1 ⟨rfl,hO1,hOW⟩
    go_wp2_with fail
    refine hK.out _ _ ⟨_,_,_,_,_,_,_,_,_,_,?_,s0.keep rfl,s1.keep rfl,s2.keep rfl,s3.keep rfl,s4.keep rfl,s5.keep rfl,Slot.new _ _ _,s7.keep rfl,B8.keep hOW rfl rfl,hO1⟩
    simp only[XP]
   ·have q0:=s0 (hd 0 (by decide))
    have q4:=s4 (hd 4 (by decide))
    have q6:=s6 (hd 6 (by decide))
    subst ha q0 q4 q6
    go_simp
    refine(held_inv (FE.out wr hO) hO).mono ?_
    rintro e w1 ⟨rfl,hO1,hOW⟩
    go_wp2_with fail
    refine hK.out _ _ ⟨_,_,_,_,_,_,_,_,_,_,?_,s0.keep rfl,s1.keep rfl,s2.keep rfl,s3.keep rfl,s4.keep rfl,s5.keep rfl,s6.keep rfl,Slot.new _ _ _,B8.keep hOW rfl rfl,hO1⟩
    simp only[XP]
   ·subst ha
    go_simp
    refine hK.out _ _ ⟨_,_,_,_,_,_,_,_,_,_,?_,s0.keep rfl,s1.keep rfl,s2.keep rfl,s3.keep rfl,s4.keep rfl,s5.keep rfl,s6.keep rfl,s7.keep rfl,B8.make hl rfl hO,hO.alloc _⟩
    simp only[XP]
   ·have h8:=hd 8 (by decide)
    have q8:=B8.ptr h8
    have q7:=s7 (hd 7 (by decide))
    subst ha q8 q7
    obtain⟨⟨m0,m1,m2,m3⟩,fz,lt⟩:=zero_cells (B8.was h8 hl)
    go_simp
    refine hK.out _ _ ⟨_,_,_,_,_,_,_,_,_,_,?_,s0.keep rfl,s1.keep rfl,s2.keep rfl,s3.keep rfl,s4.keep rfl,s5.keep rfl,s6.keep rfl,s7.keep rfl,B8.put hl h8 rfl rfl,setCells_in hO (fun c=>absurd c (Nat.not_lt.2 (B8.new h8))) [.int .u64 (wd v 0),.int .u64 (wd v 1),.int .u64 (wd v 2),.int .u64 (wd v 3)]⟩
    simp only[XP]
   intro l a wc hI hd
   obtain⟨u16,u17,u18,u19,u20,u21,u22,u23,u9,b9,ha,s0,s1,s2,s3,s4,s5,s6,s7,B8,hO⟩:=hI
   simp only[XP]at ha
   have q0:=s0 (hd 0 (by decide))
   have q1:=s1 (hd 1 (by decide))
   have q2:=s2 (hd 2 (by decide))
   have q3:=s3 (hd 3 (by decide))
   have q4:=s4 (hd 4 (by decide))
   have q5:=s5 (hd 5 (by decide))
   have q6:=s6 (hd 6 (by decide))
   have q7:=s7 (hd 7 (by decide))
   have q8:=B8.ptr (hd 8 (by decide))
   have n9:wc.heap[b9]?=some (.cells #[.int .u64 (wd v 0),.int .u64 (wd v 1),.int .u64 (wd v 2),.int .u64 (wd v 3)] 63):=B8.now (hd 8 (by decide)) (hd 9 (by decide))
   have v9:=B8.new (hd 8 (by decide))
   subst ha q0 q1 q2 q3 q4 q5 q6 q7 q8
   clear hd s0 s1 s2 s3 s4 s5 s6 s7 B8
   have HO1:=hid hO
   clear hO
   obtain⟨W1,hW1⟩:∃ W1,W1=wc:=⟨_,rfl⟩
   rw[<-hW1]
   rw[<-hW1]at n9 HO1
   clear hW1
   obtain⟨q0,q1,q2,q3⟩:=cells4 n9
   obtain⟨p0,p1,p2,p3⟩:=(HK.out _ HO1.out).1
   have lb:=heap_lt n9
   have lp:=World.block_lt_of_cell? W1 _ p0
   clear n9
   go_wp2_with fail
   refine(FF.out _).mono ?_
   rintro e u2 ⟨rfl,hO⟩
   have HO2:=hid (HO.out.trans (HO1.out.trans hO (fun _ _ c=>c)) (fun _ _ c=>c))
   have HOv2:=hid (own_off HOv.out (HO1.out.trans hO (fun _ _ c=>c)))
   have HO21:=hid (HO1.out.trans hO (fun _ _ c=>c))
   clear hO q0 q1 q2 q3 p0 p1 p2 p3 lb lp
   go_wp2_with (at_builtin;refine wpList_append_own _ rfl _ _ 43 rfl (w.heap.size+1) 66 j0 _ 4 32 Tryz.underlying43 hj hj0 hj1 hj2 rfl (by decide) _ k _ rfl (HOv2.out.alloc _) ⟨u2.heap.size,0,none⟩ 1 1 (words4 z) rfl rfl ?q1 (words4_one _) ?q2 ?q3 ?q4 ?_)
   case q1=>exact words4_at (heap_new' rfl _)
   case q2=>have:=HKb.out;unfold maxLen;omega
   case q3=>have:=HKb.out;omega
   case q4=>have:=Nat.lt_of_lt_of_le (heap_lt HG.out) HO21.out.size;simp;omega
   intro v' w1 hown' hgrow hnil
   obtain⟨g6,c6,rfl⟩:=ownsRow_succ hown'
   have hO3:Off (fun _=>False) w w1:=grown_off (HO2.out.alloc _) (Nat.le_succ _) (HOv2.out.alloc _) hgrow
   rw[HFl.out]at hown'
   have w2:IntKind.i64.wrap ((k:Int)+1)=(k:Int)+1:=by rw[IntKind.wrap_i64];have:=HKb.out;omega
   have HG4:=hid (show w1.heap[w.heap.size]?=some (.cells #[.int .u64 (wd p 0),.int .u64 (wd p 1),.int .u64 (wd p 2),.int .u64 (wd p 3)] 63 (0,0)) from(hgrow.block w.heap.size (heap_lt (heap_old' (HO21.out.heap HG.out (fun c=>c)) _)) (fun e=>by have:=(World.ownsRow.lt HOv2.out _ e.symm).1;omega)).trans (heap_old' (HO21.out.heap HG.out (fun c=>c)) _))
   have HO4:=hid hO3
   clear hO3
   go_wp2
   go_roundw
   case rel=>exact⟨k+1,by have:=HKb.out;omega,by simp,⟨_,_,rfl,hown'⟩,HG4.out,HO4.out⟩
   case measure=>simp[intOf];have:=HKb.out;omega
  obtain rfl:m=k:=by omega
  have i1:¬(m:Int)<(m:Int):=by omega
  rw[List.take_of_length_le (by rw[<-HM.out];exact Nat.le_refl _)]at hov
  have HOv:=hid hov
  have HO:=hid hO
  clear hov hO hg
  go_wp2
  exact bodyPost_ret (v:=.slice va m vc) (by simp[results,Tryz.results81,go_sem]) rfl ⟨_,_,rfl,own_base5 HOv.out (Nat.le_succ _),HO.out⟩
def PayRow (B:Nat) (W:World) (x:ShV):Prop:=W.ownsRow B 66 4 (.slice x.pa x.sh.pl.length x.pc) x.sh.pl.length (flat4 x.sh.pl)
def EvL (q:Pms) (p:Nat) (cs:List (List Nat)) (k B:Nat) (W:World) (v:Value):Prop:=∃ L:List ShV,RowS B W v L/\L.map ShV.sh=(List.range k).map (fun j=>shrN q p cs (j+1))/\∀ x∈L,PayRow B W x
def PlApart (x y:ShV):Prop:=∀ g,(Value.slice x.pa x.sh.pl.length x.pc).ownBlock=some g->(Value.slice y.pa y.sh.pl.length y.pc).ownBlock≠some g
def EvD (q:Pms) (p:Nat) (cs:List (List Nat)) (k B:Nat) (W:World) (v:Value):Prop:=∃ L:List ShV,RowS B W v L/\L.map ShV.sh=(List.range k).map (fun j=>shrN q p cs (j+1))/\(∀ x∈L,PayRow B W x)/\L.Pairwise PlApart
theorem EvD.evL {q:Pms} {p k B:Nat} {cs:List (List Nat)} {W:World} {v:Value} (h:EvD q p cs k B W v):EvL q p cs k B W v:=by
 obtain⟨L,h1,h2,h3,_⟩:=h
 exact⟨L,h1,h2,h3⟩
theorem EvD.base {q:Pms} {p k B B':Nat} {cs:List (List Nat)} {W:World} {v:Value} (h:EvD q p cs k B W v) (hb:B'<=B):EvD q p cs k B' W v:=by
 obtain⟨L,hr,hL,hp,ha⟩:=h
 exact⟨L,hr.base hb,hL,fun x hx=>own_base5 (hp x hx) hb,ha⟩
theorem EvL.shape {q:Pms} {p k B:Nat} {cs:List (List Nat)} {W:World} {v:Value} (h:EvL q p cs k B W v):∃ a c,v=.slice a k c:=by
 obtain⟨L,hr,hL,_⟩:=h
 have hlen:L.length=k:=by have:=congrArg List.length hL;simpa using this
 obtain⟨a,c,rfl,_⟩:=hr.svs
 exact⟨a,c,by rw[hlen]⟩
theorem app_sh1 {B bz:Nat} {W:World} {v:Value} {L:List ShV} {x:ShV} (h1:RowS B W v L) (hB:B<=W.heap.size) (hb:W.heap[bz]?=some (.cells #[.int .i64 x.sh.fd,.int .i64 x.sh.th,.int .i64 x.sh.ix,.int .i64 x.sh.ln,.slice x.pa x.sh.pl.length x.pc] 45 (0,0))) (hk:L.length+1<=100000) :
  ∃ v' w',(Builtin.append_ #[22,22] 22 #[v,.slice (some ⟨bz,0,none⟩) 1 1]).run Tryz.prog W=.ok v' w'/\RowS B w' v' (L++[x])/\W.grownBy w' v.ownBlock:=by
 obtain⟨i0,hi,hz0,hz1,hz2⟩:=info_parts share_info
 obtain⟨v',w',hr,ho,hg,_,hb⟩:=run_append_own_at (P:=Tryz.prog) W B 22 22 45 i0 _ 5 56 Tryz.underlying22 hi hz0 hz1 hz2 rfl (by decide) v L.length _ h1 ⟨bz,0,none⟩ 1 1 (flat5 [x]) rfl (fun j u hj=>by
  rw[Addr.add_lit,Nat.zero_add]
  rw[cell_of_heap hb]
  match j,hj with
  | 0,hj=>simpa[flat5,ShV.cells]using hj
  | 1,hj=>simpa[flat5,ShV.cells]using hj
  | 2,hj=>simpa[flat5,ShV.cells]using hj
  | 3,hj=>simpa[flat5,ShV.cells]using hj
  | 4,hj=>simpa[flat5,ShV.cells]using hj
  | n+5,hj=>simp[flat5,ShV.cells]at hj) (flat5_one [x]) (by unfold maxLen;omega) (by omega) hB
 refine⟨v',w',hr,?_,hg⟩
 unfold RowS
 rw[flat5_append,List.length_append]
 exact ho
theorem el_ne_share:66≠45:=by decide
theorem eva_step {fd th sh ln:Int} {p k i m:Nat} {cs:List (List Nat)} {va:Option Addr} {vc:Nat} {w wq wr:World} {az:Option Addr} {cz bz:Nat}
  (hE:EvD ⟨fd,th,sh,ln⟩ p cs k (w.heap.size+1) wq (.slice va k vc)) (hO:Off (fun _=>False) wq wr) (hG:wq.heap[w.heap.size]?=some (.cells #[.int .i64 fd,.int .i64 th,.int .i64 sh,.int .i64 ln] 51 (0,0))) (hw:Off (fun _=>False) w wq) (hm:m=cs.length) (hik:i=k+1) (hft:k<=255) (hB:w.heap.size+1<=wq.heap.size)
  (hp:wr.ownsRow wq.heap.size 66 4 (.slice az m cz) m (flat4 (payN p cs i))) (hb:wr.heap[bz]?=some (.cells #[.int .i64 fd,.int .i64 th,.int .i64 i,.int .i64 ln,.slice az m cz] 45 (0,0))) :
  ∃ v' w',(Builtin.append_ #[22,22] 22 #[.slice va k vc,.slice (some ⟨bz,0,none⟩) 1 1]).run Tryz.prog wr=.ok v' w' /\
   EvD ⟨fd,th,sh,ln⟩ p cs (k+1) (w.heap.size+1) w' v'/\w'.heap[w.heap.size]?=some (.cells #[.int .i64 fd,.int .i64 th,.int .i64 sh,.int .i64 ln] 51 (0,0))/\Off (fun _=>False) w w':=by
 obtain⟨L,hr,hL,hpr,hap⟩:=hE
 have hlen:L.length=k:=by have:=congrArg List.length hL;simpa using this
 have hpl:(payN p cs i).length=m:=by simp[payN,hm]
 obtain⟨v',w',hrun,hr1,hg⟩:=app_sh1 (x:=⟨⟨fd,th,(i:Int),ln,payN p cs i⟩,az,cz⟩) (hr.off hO) (Nat.le_trans hB hO.size) (by dsimp only;rw[hpl];exact hb) (by omega)
 have hgo:∀ g,(Value.slice va k vc).ownBlock=some g->w.heap.size+1<=g:=fun g e=>(World.ownsRow.lt (hr.off hO) g e).1
 refine⟨v',w',hrun,⟨L++[⟨⟨fd,th,(i:Int),ln,payN p cs i⟩,az,cz⟩],hr1,?_,fun x hx=>?_,?_⟩,?_,?_⟩
 ·rw[List.map_append,hL,List.range_succ,List.map_append,hik];rfl
 ·rcases List.mem_append.1 hx with hx | hx
  ·have h:=own_off (hpr x hx) hO
   exact h.kept hg (rows_apart h (hr.off hO) el_ne_share)
  simp at hx
  subst hx
  have h:=own_base5 hp hB
  have h2:=h.kept hg (rows_apart h (hr.off hO) el_ne_share)
  unfold PayRow
  dsimp only
  rw[hpl];exact h2
 ·refine List.pairwise_append.2 ⟨hap,List.pairwise_singleton _ _,fun x hx y hy g e1 e2=>?_⟩
  have h1:=(World.ownsRow.lt (hpr x hx) g e1).2
  rw[List.mem_singleton]at hy
  subst hy
  dsimp only at e2
  rw[hpl]at e2
  have h2:=(World.ownsRow.lt hp g e2).1
  omega
 ·have h1:=hO.heap hG (fun c=>c)
  exact(hg.block w.heap.size (heap_lt h1) (fun e=>by have:=hgo _ e.symm;omega)).trans h1
 exact(hw.trans hO (fun _ _ c=>c)).grown hg (fun g e=>⟨fun h=>by have:=hgo g e;omega,fun o ho=>by
  rcases(hr.off hO).2 with ⟨e2,_⟩ | ⟨g2,cap,cur,e2,_,hgc,_⟩
  ·rw[e2]at e;simp[Value.ownBlock]at e
  rw[e2]at e;simp[Value.ownBlock]at e;subst e;rw[hgc]at ho;cases ho;rfl⟩)
theorem refevaD_any (q:Pms) (hq:q.ok) (h0:prN q=0) (p:Nat) (hpm:p=modN q.fd) (cs:List (List Nat)) (hcs:∀ c∈cs,∀ x∈c,x<p) (v:Value) (w:World) (hL:LLs w v cs) :
  Calls Tryz.prog 51 #[q.val,v] w fun e w'=>∃ v',e=.returned v'/\EvD q p cs q.sh.toNat w.heap.size w' v'/\Off (fun _=>False) w w':=by
 have hok:=prN_ok h0
 have hpos:=modN_pos hok.1
 have hbig:256<p:=by rw[hpm];rcases hok.1 with h | h <;> rw[h] <;> decide
 rw[<-hpm]at hpos
 have FM:=hid (fun W=>mod_modulus q.fd W)
 rw[<-hpm]at FM
 have hz:=hL
 obtain⟨ca,cc,rfl,hm1,_⟩:=hz
 obtain⟨m,hm⟩:∃ m,m=cs.length:=⟨_,rfl⟩
 rw[<-hm]at hL hm1 ⊢
 have hsh:q.sh=(q.sh.toNat:Int):=by omega
 have hs255:q.sh.toNat<=255:=by omega
 obtain⟨n,hn⟩:∃ n,n=q.sh.toNat:=⟨_,rfl⟩
 rw[<-hn]at hsh hs255 ⊢
 obtain⟨fd,th,sh,ln⟩:=q
 dsimp only at hsh FM
 unfold Pms.val
 dsimp only
 obtain⟨w0,hw0⟩:∃ w0,w0=w.alloc (.cells #[.int .i64 fd,.int .i64 th,.int .i64 sh,.int .i64 ln] 51):=⟨_,rfl⟩
 have hO0:Off (fun _=>False) w w0:=by rw[hw0];exact(Off.refl _ w).alloc _
 have g0:w0.heap[w.heap.size]?=some (.cells #[.int .i64 fd,.int .i64 th,.int .i64 sh,.int .i64 ln] 51 (0,0)):=by rw[hw0];exact heap_new' rfl _
 have FY0:=hid (fun(i:Nat) (hi:i<256) W (h:Off (fun _=>False) w W)=>refpay_any p hpos.2 hpos.1 cs hcs i hi (by omega) (.slice ca m cc) W (hL.off h))
 rw[<-hm]at FY0
 have HO0:=hid hO0
 have HG0:=hid g0
 have HM:=hid hm
 have HW0:=hid hw0
 have HSH:=hid hsh
 clear hL hO0 g0 hm hcs hw0 hok hq h0 hpm hn hsh hpos hbig
 go_enter Tryz.func51,Tryz.ntmps51
 go_wp2
 rw[<-HW0.out]
 go_loopw [5,6] (fun u j wr=>∃ k:Nat,k<=n/\j=.int .i64 ((k:Int)+1)/\(∃ a c2,u=.slice a k c2/\EvD ⟨fd,th,sh,ln⟩ p cs k (w.heap.size+1) wr u)/\wr.heap[w.heap.size]?=some (.cells #[.int .i64 fd,.int .i64 th,.int .i64 sh,.int .i64 ln] 51 (0,0))/\Off (fun _=>False) w wr) (fun _ j _=>n+1-(intOf j).toNat)
 case atStart=>exact⟨0,Nat.zero_le _,rfl,⟨none,0,rfl,[],World.ownsRow_nil _ _ _ _,rfl,(fun _ h=>by cases h),List.Pairwise.nil⟩,HG0.out,HO0.out⟩
 case round =>
  obtain⟨k,hk,rfl,⟨va,vc,rfl,hev⟩,hg,hO⟩:=hrel
  obtain⟨wq,hwq⟩:∃ wq,wq=wr:=⟨_,rfl⟩
  subst hwq
  have m2:=cell_of_heap hg 2
  have hlq:=heap_lt hg
  by_cases hlt:k<n
  ·obtain⟨i,hi⟩:∃ i,i=k+1:=⟨_,rfl⟩
   have hii:(k:Int)+1=(i:Int):=by omega
   rw[hii]
   have HEv:=hid hev
   have HG:=hid hg
   have HO:=hid hO
   have HIK:=hid hi
   have HFT:=hid (show k<=255 by omega)
   have HKL:=hid (show w.heap.size+1<=wq.heap.size from hlq)
   have FY:=hid (fun W (h:Off (fun _=>False) wq W)=>FY0.out i (by omega) W (hO.trans h (fun _ _ c=>c)))
   have hle:decide ((i:Int)<=sh)=true:=decide_eq_true (by rw[HSH.out];omega)
   have hle2:(i:Int)<=sh:=by rw[HSH.out];omega
   have w2:IntKind.i64.wrap ((i:Int)+1)=(i:Int)+1:=by rw[IntKind.wrap_i64];omega
   have HII:=hid hii
   have HKN:=hid (show k<n/\n<=255 from⟨hlt,hs255⟩)
   clear hev hg hO hi hk hlt hii hs255
   go_upto_region 5 with fail
   clear m2 hlq
   obtain⟨x13,hx⟩:∃ vv:Value,vv=.slice va k vc:=⟨_,rfl⟩
   have X13:=hid hx
   clear hx
   obtain⟨x14,hx⟩:∃ vv:Value,vv=.pointer (some ⟨w.heap.size,0,none⟩):=⟨_,rfl⟩
   have X14:=hid hx
   clear hx
   obtain⟨x15,hx⟩:∃ vv:Value,vv=.int .i64 fd:=⟨_,rfl⟩
   have X15:=hid hx
   clear hx
   obtain⟨x16,hx⟩:∃ vv:Value,vv=.pointer (some ⟨w.heap.size,1,none⟩):=⟨_,rfl⟩
   have X16:=hid hx
   clear hx
   obtain⟨x17,hx⟩:∃ vv:Value,vv=.int .i64 th:=⟨_,rfl⟩
   have X17:=hid hx
   clear hx
   obtain⟨x18,hx⟩:∃ vv:Value,vv=.int .i64 i:=⟨_,rfl⟩
   have X18:=hid hx
   clear hx
   obtain⟨x19,hx⟩:∃ vv:Value,vv=.pointer (some ⟨w.heap.size,3,none⟩):=⟨_,rfl⟩
   have X19:=hid hx
   clear hx
   obtain⟨x20,hx⟩:∃ vv:Value,vv=.int .i64 ln:=⟨_,rfl⟩
   have X20:=hid hx
   clear hx
   obtain⟨x21,hx⟩:∃ vv:Value,vv=.pointer (some ⟨w.heap.size,0,none⟩):=⟨_,rfl⟩
   have X21:=hid hx
   clear hx
   obtain⟨x22,hx⟩:∃ vv:Value,vv=.int .i64 fd:=⟨_,rfl⟩
   have X22:=hid hx
   clear hx
   obtain⟨x23,hx⟩:∃ vv:Value,vv=V p:=⟨_,rfl⟩
   have X23:=hid hx
   clear hx
   obtain⟨x24,hx⟩:∃ vv:Value,vv=.slice ca m cc:=⟨_,rfl⟩
   have X24:=hid hx
   clear hx
   obtain⟨x25,hx⟩:∃ vv:Value,vv=.int .i64 i:=⟨_,rfl⟩
   have X25:=hid hx
   clear hx
   refine wp_region_clo (fun a0 l a' w'=>∃ (az:Option Addr) (cz:Nat) (bz:Nat) (vf:Value),a'=(Act.put (fill a0 13 [sel (l 0) x13 (u13),sel (l 1) x14 (u14),sel (l 2) x15 (u15),sel (l 3) x16 (u16),sel (l 4) x17 (u17),sel (l 5) x18 (u18),sel (l 6) x19 (u19),sel (l 7) x20 (u20),sel (l 8) x21 (u21),sel (l 9) x22 (u22),sel (l 10) x23 (u23),sel (l 11) x24 (u24),sel (l 12) x25 (u25),sel (l 13) (.slice az m cz) (u26),sel (l 14) (.agg #[.int .i64 fd,.int .i64 th,.int .i64 i,.int .i64 ln,.slice az m cz]) (u27),sel (l 15) (.slice (some ⟨bz,0,none⟩) 1 1) (u28),sel (l 16) (vf) (u29),undef]) (some 5) (sel (l 17) (vf) (.slice va k vc)))/\(l 16=false->Off (fun _=>False) wq w'/\(l 13=true->w'.ownsRow wq.heap.size 66 4 (.slice az m cz) m (flat4 (payN p cs i)))/\(l 15=true->w'.heap[bz]?=some (.cells #[.int .i64 fd,.int .i64 th,.int .i64 i,.int .i64 ln,.slice az m cz] 45 (0,0))))/\(l 16=true->EvD ⟨fd,th,sh,ln⟩ p cs (k+1) (w.heap.size+1) w' vf/\w'.heap[w.heap.size]?=some (.cells #[.int .i64 fd,.int .i64 th,.int .i64 sh,.int .i64 ln] 51 (0,0))/\Off (fun _=>False) w w')) (by kernel_rfl) (by kernel_rfl) ?_ ⟨?_,?_,?_,?_,?_,?_,?_,?_,?_,?_,?_,?_,?_,?_,?_,?_,?_,?_,trivial⟩ ?_
   ·refine⟨none,0,0,undef,?_,fun _=>⟨(Off.refl _ wq).drew,(fun h=>by cases h),(fun h=>by cases h)⟩,fun h=>by cases h⟩
    simp only[XF,XP,sel_start]
    try rfl
   all_goals try (rintro l a wr ⟨az,cz,bz,vf,ha,hA,hB⟩ hc hl hd K' hK)
   ·as_aux_lemma =>
     have hx:=X13.out;subst hx
     have gF:l 16=false:=hc.not (i:=16) hl 18 (by kernel_rfl)
     obtain⟨hO,h13,h15⟩:=hA gF
     have GF:=hid gF
     clear gF hA hB
     have g17:=hc.not (i:=17) hl 18 (by kernel_rfl)
     simp only[XF,XP,sel_no g17]at ha
     subst ha
     have G17:=hid g17
     clear g17
     have H13:=hid h13
     clear h13
     have H15:=hid h15
     clear h15
     rw[if_pos (by rfl)]
     go_simp
     refine Shut.out hK _ _ ⟨az,cz,bz,vf,?_,fun _=>⟨hO,(fun h=>own_off (H13.out (show l 13=true by rwa [upd_ne l (by decide)]at h)) (Off.refl (fun _=>False) wr)),(fun h=>Off.heap (Off.refl (fun _=>False) wr) (H15.out (show l 15=true by rwa [upd_ne l (by decide)]at h)) (fun c=>c))⟩,fun h=>absurd (show(true:Bool)=false from(show l 16=true by rwa [upd_ne l (by decide)]at h).symm.trans GF.out) (by decide)⟩
     simp only[XF,XP,sel_new,sel_no (show upd l 0 17=false by rw[upd_ne l (by decide)];exact G17.out)]
     try rfl
   ·as_aux_lemma =>
     have hx:=X14.out;subst hx
     have gF:l 16=false:=hc.not (i:=16) hl 18 (by kernel_rfl)
     obtain⟨hO,h13,h15⟩:=hA gF
     have GF:=hid gF
     clear gF hA hB
     simp only[XF,XP]at ha
     subst ha
     have H13:=hid h13
     clear h13
     have H15:=hid h15
     clear h15
     have hlq:=heap_lt (hO.heap HG.out (fun c=>c))
     rw[if_pos (by rfl)]
     go_simp
     refine Shut.out hK _ _ ⟨az,cz,bz,vf,?_,fun _=>⟨hO,(fun h=>own_off (H13.out (show l 13=true by rwa [upd_ne l (by decide)]at h)) (Off.refl (fun _=>False) wr)),(fun h=>Off.heap (Off.refl (fun _=>False) wr) (H15.out (show l 15=true by rwa [upd_ne l (by decide)]at h)) (fun c=>c))⟩,fun h=>absurd (show(true:Bool)=false from(show l 16=true by rwa [upd_ne l (by decide)]at h).symm.trans GF.out) (by decide)⟩
     simp only[XF,XP,sel_new]
     try rfl
   ·as_aux_lemma =>
     have d1:=hd 1 (by decide)
     have hx:=X14.out;subst hx
     have hx:=X15.out;subst hx
     have gF:l 16=false:=hc.not (i:=16) hl 18 (by kernel_rfl)
     obtain⟨hO,h13,h15⟩:=hA gF
     have GF:=hid gF
     clear gF hA hB
     simp only[XF,XP,sel_of d1]at ha
     subst ha
     have H13:=hid h13
     clear h13
     have H15:=hid h15
     clear h15
     have p0:=cell_of_heap (hO.heap HG.out (fun c=>c)) 0
     rw[if_pos (by rfl)]
     go_simp
     refine Shut.out hK _ _ ⟨az,cz,bz,vf,?_,fun _=>⟨hO,(fun h=>own_off (H13.out (show l 13=true by rwa [upd_ne l (by decide)]at h)) (Off.refl (fun _=>False) wr)),(fun h=>Off.heap (Off.refl (fun _=>False) wr) (H15.out (show l 15=true by rwa [upd_ne l (by decide)]at h)) (fun c=>c))⟩,fun h=>absurd (show(true:Bool)=false from(show l 16=true by rwa [upd_ne l (by decide)]at h).symm.trans GF.out) (by decide)⟩
     simp only[XF,XP,sel_new,sel_dep d1]
     try rfl
   ·as_aux_lemma =>
     have hx:=X16.out;subst hx
     have gF:l 16=false:=hc.not (i:=16) hl 18 (by kernel_rfl)
     obtain⟨hO,h13,h15⟩:=hA gF
     have GF:=hid gF
     clear gF hA hB
     simp only[XF,XP]at ha
     subst ha
     have H13:=hid h13
     clear h13
     have H15:=hid h15
     clear h15
     have hlq:=heap_lt (hO.heap HG.out (fun c=>c))
     rw[if_pos (by rfl)]
     go_simp
     refine Shut.out hK _ _ ⟨az,cz,bz,vf,?_,fun _=>⟨hO,(fun h=>own_off (H13.out (show l 13=true by rwa [upd_ne l (by decide)]at h)) (Off.refl (fun _=>False) wr)),(fun h=>Off.heap (Off.refl (fun _=>False) wr) (H15.out (show l 15=true by rwa [upd_ne l (by decide)]at h)) (fun c=>c))⟩,fun h=>absurd (show(true:Bool)=false from(show l 16=true by rwa [upd_ne l (by decide)]at h).symm.trans GF.out) (by decide)⟩
     simp only[XF,XP,sel_new]
     try rfl
   ·as_aux_lemma =>
     have d3:=hd 3 (by decide)
     have hx:=X16.out;subst hx
     have hx:=X17.out;subst hx
     have gF:l 16=false:=hc.not (i:=16) hl 18 (by kernel_rfl)
     obtain⟨hO,h13,h15⟩:=hA gF
     have GF:=hid gF
     clear gF hA hB
     simp only[XF,XP,sel_of d3]at ha
     subst ha
     have H13:=hid h13
     clear h13
     have H15:=hid h15
     clear h15
     have p0:=cell_of_heap (hO.heap HG.out (fun c=>c)) 1
     rw[if_pos (by rfl)]
     go_simp
     refine Shut.out hK _ _ ⟨az,cz,bz,vf,?_,fun _=>⟨hO,(fun h=>own_off (H13.out (show l 13=true by rwa [upd_ne l (by decide)]at h)) (Off.refl (fun _=>False) wr)),(fun h=>Off.heap (Off.refl (fun _=>False) wr) (H15.out (show l 15=true by rwa [upd_ne l (by decide)]at h)) (fun c=>c))⟩,fun h=>absurd (show(true:Bool)=false from(show l 16=true by rwa [upd_ne l (by decide)]at h).symm.trans GF.out) (by decide)⟩
     simp only[XF,XP,sel_new,sel_dep d3]
     try rfl
   ·as_aux_lemma =>
     have hx:=X18.out;subst hx
     have gF:l 16=false:=hc.not (i:=16) hl 18 (by kernel_rfl)
     obtain⟨hO,h13,h15⟩:=hA gF
     have GF:=hid gF
     clear gF hA hB
     simp only[XF,XP]at ha
     subst ha
     have H13:=hid h13
     clear h13
     have H15:=hid h15
     clear h15
     rw[if_pos (by rfl)]
     go_simp
     refine Shut.out hK _ _ ⟨az,cz,bz,vf,?_,fun _=>⟨hO,(fun h=>own_off (H13.out (show l 13=true by rwa [upd_ne l (by decide)]at h)) (Off.refl (fun _=>False) wr)),(fun h=>Off.heap (Off.refl (fun _=>False) wr) (H15.out (show l 15=true by rwa [upd_ne l (by decide)]at h)) (fun c=>c))⟩,fun h=>absurd (show(true:Bool)=false from(show l 16=true by rwa [upd_ne l (by decide)]at h).symm.trans GF.out) (by decide)⟩
     simp only[XF,XP,sel_new]
     try rfl
   ·as_aux_lemma =>
     have hx:=X19.out;subst hx
     have gF:l 16=false:=hc.not (i:=16) hl 18 (by kernel_rfl)
     obtain⟨hO,h13,h15⟩:=hA gF
     have GF:=hid gF
     clear gF hA hB
     simp only[XF,XP]at ha
     subst ha
     have H13:=hid h13
     clear h13
     have H15:=hid h15
     clear h15
     have hlq:=heap_lt (hO.heap HG.out (fun c=>c))
     rw[if_pos (by rfl)]
     go_simp
     refine Shut.out hK _ _ ⟨az,cz,bz,vf,?_,fun _=>⟨hO,(fun h=>own_off (H13.out (show l 13=true by rwa [upd_ne l (by decide)]at h)) (Off.refl (fun _=>False) wr)),(fun h=>Off.heap (Off.refl (fun _=>False) wr) (H15.out (show l 15=true by rwa [upd_ne l (by decide)]at h)) (fun c=>c))⟩,fun h=>absurd (show(true:Bool)=false from(show l 16=true by rwa [upd_ne l (by decide)]at h).symm.trans GF.out) (by decide)⟩
     simp only[XF,XP,sel_new]
     try rfl
   ·as_aux_lemma =>
     have d6:=hd 6 (by decide)
     have hx:=X19.out;subst hx
     have hx:=X20.out;subst hx
     have gF:l 16=false:=hc.not (i:=16) hl 18 (by kernel_rfl)
     obtain⟨hO,h13,h15⟩:=hA gF
     have GF:=hid gF
     clear gF hA hB
     simp only[XF,XP,sel_of d6]at ha
     subst ha
     have H13:=hid h13
     clear h13
     have H15:=hid h15
     clear h15
     have p0:=cell_of_heap (hO.heap HG.out (fun c=>c)) 3
     rw[if_pos (by rfl)]
     go_simp
     refine Shut.out hK _ _ ⟨az,cz,bz,vf,?_,fun _=>⟨hO,(fun h=>own_off (H13.out (show l 13=true by rwa [upd_ne l (by decide)]at h)) (Off.refl (fun _=>False) wr)),(fun h=>Off.heap (Off.refl (fun _=>False) wr) (H15.out (show l 15=true by rwa [upd_ne l (by decide)]at h)) (fun c=>c))⟩,fun h=>absurd (show(true:Bool)=false from(show l 16=true by rwa [upd_ne l (by decide)]at h).symm.trans GF.out) (by decide)⟩
     simp only[XF,XP,sel_new,sel_dep d6]
     try rfl
   ·as_aux_lemma =>
     have hx:=X21.out;subst hx
     have gF:l 16=false:=hc.not (i:=16) hl 18 (by kernel_rfl)
     obtain⟨hO,h13,h15⟩:=hA gF
     have GF:=hid gF
     clear gF hA hB
     simp only[XF,XP]at ha
     subst ha
     have H13:=hid h13
     clear h13
     have H15:=hid h15
     clear h15
     have hlq:=heap_lt (hO.heap HG.out (fun c=>c))
     rw[if_pos (by rfl)]
     go_simp
     refine Shut.out hK _ _ ⟨az,cz,bz,vf,?_,fun _=>⟨hO,(fun h=>own_off (H13.out (show l 13=true by rwa [upd_ne l (by decide)]at h)) (Off.refl (fun _=>False) wr)),(fun h=>Off.heap (Off.refl (fun _=>False) wr) (H15.out (show l 15=true by rwa [upd_ne l (by decide)]at h)) (fun c=>c))⟩,fun h=>absurd (show(true:Bool)=false from(show l 16=true by rwa [upd_ne l (by decide)]at h).symm.trans GF.out) (by decide)⟩
     simp only[XF,XP,sel_new]
     try rfl
   ·as_aux_lemma =>
     have d8:=hd 8 (by decide)
     have hx:=X21.out;subst hx
     have hx:=X22.out;subst hx
     have gF:l 16=false:=hc.not (i:=16) hl 18 (by kernel_rfl)
     obtain⟨hO,h13,h15⟩:=hA gF
     have GF:=hid gF
     clear gF hA hB
     simp only[XF,XP,sel_of d8]at ha
     subst ha
     have H13:=hid h13
     clear h13
     have H15:=hid h15
     clear h15
     have p0:=cell_of_heap (hO.heap HG.out (fun c=>c)) 0
     rw[if_pos (by rfl)]
     go_simp
     refine Shut.out hK _ _ ⟨az,cz,bz,vf,?_,fun _=>⟨hO,(fun h=>own_off (H13.out (show l 13=true by rwa [upd_ne l (by decide)]at h)) (Off.refl (fun _=>False) wr)),(fun h=>Off.heap (Off.refl (fun _=>False) wr) (H15.out (show l 15=true by rwa [upd_ne l (by decide)]at h)) (fun c=>c))⟩,fun h=>absurd (show(true:Bool)=false from(show l 16=true by rwa [upd_ne l (by decide)]at h).symm.trans GF.out) (by decide)⟩
     simp only[XF,XP,sel_new,sel_dep d8]
     try rfl
   ·as_aux_lemma =>
     have d9:=hd 9 (by decide)
     have hx:=X22.out;subst hx
     have hx:=X23.out;subst hx
     have gF:l 16=false:=hc.not (i:=16) hl 18 (by kernel_rfl)
     obtain⟨hO,h13,h15⟩:=hA gF
     have GF:=hid gF
     clear gF hA hB
     simp only[XF,XP,sel_of d9]at ha
     subst ha
     have H13:=hid h13
     clear h13
     have H15:=hid h15
     clear h15
     rw[if_pos (by rfl)]
     go_simp
     refine(FM.out wr).mono ?_
     rintro e w1 ⟨rfl,hO1⟩
     go_wp2_with fail
     refine Shut.out hK _ _ ⟨az,cz,bz,vf,?_,fun _=>⟨(hO.trans hO1 (fun _ _ c=>c)),(fun h=>own_off (H13.out (show l 13=true by rwa [upd_ne l (by decide)]at h)) hO1),(fun h=>Off.heap hO1 (H15.out (show l 15=true by rwa [upd_ne l (by decide)]at h)) (fun c=>c))⟩,fun h=>absurd (show(true:Bool)=false from(show l 16=true by rwa [upd_ne l (by decide)]at h).symm.trans GF.out) (by decide)⟩
     simp only[XF,XP,sel_new,sel_dep d9]
     try rfl
   ·as_aux_lemma =>
     have hx:=X24.out;subst hx
     have gF:l 16=false:=hc.not (i:=16) hl 18 (by kernel_rfl)
     obtain⟨hO,h13,h15⟩:=hA gF
     have GF:=hid gF
     clear gF hA hB
     simp only[XF,XP]at ha
     subst ha
     have H13:=hid h13
     clear h13
     have H15:=hid h15
     clear h15
     rw[if_pos (by rfl)]
     go_simp
     refine Shut.out hK _ _ ⟨az,cz,bz,vf,?_,fun _=>⟨hO,(fun h=>own_off (H13.out (show l 13=true by rwa [upd_ne l (by decide)]at h)) (Off.refl (fun _=>False) wr)),(fun h=>Off.heap (Off.refl (fun _=>False) wr) (H15.out (show l 15=true by rwa [upd_ne l (by decide)]at h)) (fun c=>c))⟩,fun h=>absurd (show(true:Bool)=false from(show l 16=true by rwa [upd_ne l (by decide)]at h).symm.trans GF.out) (by decide)⟩
     simp only[XF,XP,sel_new]
     try rfl
   ·as_aux_lemma =>
     have hx:=X25.out;subst hx
     have gF:l 16=false:=hc.not (i:=16) hl 18 (by kernel_rfl)
     obtain⟨hO,h13,h15⟩:=hA gF
     have GF:=hid gF
     clear gF hA hB
     simp only[XF,XP]at ha
     subst ha
     have H13:=hid h13
     clear h13
     have H15:=hid h15
     clear h15
     rw[if_pos (by rfl)]
     go_simp
     refine Shut.out hK _ _ ⟨az,cz,bz,vf,?_,fun _=>⟨hO,(fun h=>own_off (H13.out (show l 13=true by rwa [upd_ne l (by decide)]at h)) (Off.refl (fun _=>False) wr)),(fun h=>Off.heap (Off.refl (fun _=>False) wr) (H15.out (show l 15=true by rwa [upd_ne l (by decide)]at h)) (fun c=>c))⟩,fun h=>absurd (show(true:Bool)=false from(show l 16=true by rwa [upd_ne l (by decide)]at h).symm.trans GF.out) (by decide)⟩
     simp only[XF,XP,sel_new]
     try rfl
   ·as_aux_lemma =>
     have d10:=hd 10 (by decide)
     have d11:=hd 11 (by decide)
     have d12:=hd 12 (by decide)
     have hx:=X23.out;subst hx
     have hx:=X24.out;subst hx
     have hx:=X25.out;subst hx
     have gF:l 16=false:=hc.not (i:=16) hl 18 (by kernel_rfl)
     obtain⟨hO,h13,h15⟩:=hA gF
     have GF:=hid gF
     clear gF hA hB
     have g14:=hc.not (i:=14) hl 18 (by kernel_rfl)
     have g15:=hc.not (i:=15) hl 18 (by kernel_rfl)
     have g16:=hc.not (i:=16) hl 18 (by kernel_rfl)
     have g17:=hc.not (i:=17) hl 18 (by kernel_rfl)
     simp only[XF,XP,sel_of d10,sel_of d11,sel_of d12,sel_no g14,sel_no g15,sel_no g16,sel_no g17,sel_no hl]at ha
     subst ha
     have G14:=hid g14
     clear g14
     have G15:=hid g15
     clear g15
     have G16:=hid g16
     clear g16
     have G17:=hid g17
     clear g17
     have H13:=hid h13
     clear h13
     have H15:=hid h15
     clear h15
     rw[if_pos (by rfl)]
     go_simp
     refine(FY.out wr hO).mono ?_
     rintro e w1 ⟨az',cz',rfl,hP1,hO1⟩
     go_wp2_with fail
     refine Shut.out hK _ _ ⟨az',cz',bz,vf,?_,fun _=>⟨(hO.trans hO1 (fun _ _ c=>c)),(fun _=>own_base5 hP1 hO.size),(fun h=>absurd (show(true:Bool)=false from(show l 15=true by rwa [upd_ne l (by decide)]at h).symm.trans G15.out) (by decide))⟩,fun h=>absurd (show(true:Bool)=false from(show l 16=true by rwa [upd_ne l (by decide)]at h).symm.trans GF.out) (by decide)⟩
     simp only[XF,XP,sel_new,sel_dep d10,sel_dep d11,sel_dep d12,sel_no (show upd l 13 14=false by rw[upd_ne l (by decide)];exact G14.out),sel_no (show upd l 13 15=false by rw[upd_ne l (by decide)];exact G15.out),sel_no (show upd l 13 16=false by rw[upd_ne l (by decide)];exact G16.out),sel_no (show upd l 13 17=false by rw[upd_ne l (by decide)];exact G17.out)]
     try rfl
   ·as_aux_lemma =>
     have d2:=hd 2 (by decide)
     have d4:=hd 4 (by decide)
     have d5:=hd 5 (by decide)
     have d7:=hd 7 (by decide)
     have d13:=hd 13 (by decide)
     have hx:=X15.out;subst hx
     have hx:=X17.out;subst hx
     have hx:=X18.out;subst hx
     have hx:=X20.out;subst hx
     have gF:l 16=false:=hc.not (i:=16) hl 18 (by kernel_rfl)
     obtain⟨hO,h13,h15⟩:=hA gF
     have GF:=hid gF
     clear gF hA hB
     simp only[XF,XP,sel_of d2,sel_of d4,sel_of d5,sel_of d7,sel_of d13]at ha
     subst ha
     have q13:=h13 d13
     have Q13:=hid q13
     clear q13
     have H13:=hid h13
     clear h13
     have H15:=hid h15
     clear h15
     rw[if_pos (by rfl)]
     go_simp
     refine Shut.out hK _ _ ⟨az,cz,bz,vf,?_,fun _=>⟨hO,(fun h=>own_off (H13.out (show l 13=true by rwa [upd_ne l (by decide)]at h)) (Off.refl (fun _=>False) wr)),(fun h=>Off.heap (Off.refl (fun _=>False) wr) (H15.out (show l 15=true by rwa [upd_ne l (by decide)]at h)) (fun c=>c))⟩,fun h=>absurd (show(true:Bool)=false from(show l 16=true by rwa [upd_ne l (by decide)]at h).symm.trans GF.out) (by decide)⟩
     simp only[XF,XP,sel_new,sel_dep d2,sel_dep d4,sel_dep d5,sel_dep d7,sel_dep d13]
     try rfl
   ·have d14:=hd 14 (by decide)
    have gF:l 16=false:=hc.not (i:=16) hl 18 (by kernel_rfl)
    obtain⟨hO,h13,h15⟩:=hA gF
    have GF:=hid gF
    clear gF hA hB
    have g16:=hc.not (i:=16) hl 18 (by kernel_rfl)
    have g17:=hc.not (i:=17) hl 18 (by kernel_rfl)
    simp only[XF,XP,sel_of d14,sel_no g16,sel_no g17,sel_no hl]at ha
    subst ha
    have G16:=hid g16
    clear g16
    have G17:=hid g17
    clear g17
    have q13:=h13 (hc.up 18 14 13 d14 (by kernel_rfl))
    have Q13:=hid q13
    clear q13
    have H13:=hid h13
    clear h13
    have H15:=hid h15
    clear h15
    rw[if_pos (by rfl)]
    go_simp
    refine Shut.out hK _ _ ⟨az,cz,wr.heap.size,vf,?_,fun _=>⟨(hO.alloc _),(fun h=>own_off (H13.out (show l 13=true by rwa [upd_ne l (by decide)]at h)) ((Off.refl (fun _=>False) wr).alloc _)),(fun _=>heap_new' rfl _)⟩,fun h=>absurd (show(true:Bool)=false from(show l 16=true by rwa [upd_ne l (by decide)]at h).symm.trans GF.out) (by decide)⟩
    simp only[XF,XP,sel_new,sel_dep d14,sel_no (show upd l 15 16=false by rw[upd_ne l (by decide)];exact G16.out),sel_no (show upd l 15 17=false by rw[upd_ne l (by decide)];exact G17.out)]
    try rfl
   all_goals try (rintro l a wr ⟨az,cz,bz,vf,ha,hA,hB⟩ hc hl hd K' hK)
   ·as_aux_lemma =>
     have d0:=hd 0 (by decide)
     have d15:=hd 15 (by decide)
     have hx:=X13.out;subst hx
     have gF:l 16=false:=hl
     obtain⟨hO,h13,h15⟩:=hA gF
     have GF:=hid gF
     clear gF hA hB
     have g17:=hc.not (i:=17) hl 18 (by kernel_rfl)
     simp only[XF,XP,sel_of d0,sel_of d15,sel_no g17,sel_no hl]at ha
     subst ha
     have G17:=hid g17
     clear g17
     have q13:=h13 (hc.up 18 15 13 d15 (by kernel_rfl))
     have Q13:=hid q13
     clear q13
     have q15:=h15 d15
     have Q15:=hid q15
     clear q15
     have H13:=hid h13
     clear h13
     have H15:=hid h15
     clear h15
     rw[if_pos (by rfl)]
     obtain⟨v',w1,hrun,hev,hg1,hof⟩:=eva_step HEv.out hO HG.out HO.out HM.out HIK.out HFT.out HKL.out Q13.out Q15.out
     refine append_oper rfl rfl rfl hrun ?_
     refine Shut.out hK _ _ ⟨az,cz,bz,v',?_,fun h=>absurd h (by rw[upd_same];decide),fun _=>⟨hev,hg1,hof⟩⟩
     simp only[XF,XP,sel_new,sel_dep d0,sel_dep d15,sel_no (show upd l 16 17=false by rw[upd_ne l (by decide)];exact G17.out)]
     try rfl
   ·as_aux_lemma =>
     have d16:=hd 16 (by decide)
     simp only[XF,XP,sel_of d16]at ha
     subst ha
     rw[if_pos (by rfl)]
     go_simp
     refine Shut.out hK _ _ ⟨az,cz,bz,vf,?_,fun h=>absurd (show(true:Bool)=false from d16.symm.trans (show l 16=false by rwa [upd_ne l (by decide)]at h)) (by decide),fun _=>hB d16⟩
     simp only[XF,XP,sel_new,sel_dep d16]
     try rfl
   rintro l a wc ⟨az,cz,bz,vf,ha,hA,hB⟩ hd
   simp only[XF,XP,sel_of (hd 0 (by decide)),sel_of (hd 1 (by decide)),sel_of (hd 2 (by decide)),sel_of (hd 3 (by decide)),sel_of (hd 4 (by decide)),sel_of (hd 5 (by decide)),sel_of (hd 6 (by decide)),sel_of (hd 7 (by decide)),sel_of (hd 8 (by decide)),sel_of (hd 9 (by decide)),sel_of (hd 10 (by decide)),sel_of (hd 11 (by decide)),sel_of (hd 12 (by decide)),sel_of (hd 13 (by decide)),sel_of (hd 14 (by decide)),sel_of (hd 15 (by decide)),sel_of (hd 16 (by decide)),sel_of (hd 17 (by decide))]at ha
   subst ha
   have hPP:=hB (hd 16 (by decide))
   clear hA hB
   obtain⟨hev,hg,hO'⟩:=hPP
   obtain⟨a6,c6,rfl⟩:=hev.evL.shape
   have HE6:=hid hev
   have HG6:=hid hg
   have HO6:=hid hO'
   clear hev hg hO' hd
   go_wp2
   go_roundw
   case rel=>exact⟨k+1,by have:=HKN.out;omega,by have:=HII.out;congr 1;omega,⟨_,_,rfl,HE6.out⟩,HG6.out,HO6.out⟩
   case measure=>simp[intOf];have:=HKN.out;have:=HII.out;omega
  obtain rfl:n=k:=by omega
  have hle:decide ((n:Int)+1<=sh)=false:=decide_eq_false (by rw[HSH.out];omega)
  have hle2:¬(n:Int)+1<=sh:=by rw[HSH.out];omega
  have HEv:=hid hev
  have HO:=hid hO
  clear hev hO hlt hk hg
  go_wp2
  exact bodyPost_ret (v:=.slice va n vc) (by simp[results,Tryz.results51,go_sem]) rfl ⟨_,rfl,HEv.out.base (Nat.le_succ _),HO.out⟩
end
section
open Go.RowKit
set_option maxRecDepth 100000
set_option maxHeartbeats 4000000
theorem RowS.form {B:Nat} {W:World} {v:Value} {L:List ShV} (h:RowS B W v L) (hp:0<L.length):∃ g cap,v=.slice (some ⟨g,0,none⟩) L.length cap/\B<=g/\g<W.heap.size:=by
 rcases h.2 with ⟨rfl,hn⟩ | ⟨g,cap,cur,rfl,hBg,hgc,_⟩
 ·omega
 exact⟨g,cap,rfl,hBg,heap_lt hgc⟩
end
section
open Go.RowKit
attribute [local go_sem ↓] Go.wp_at_zero Go.wp_at_succ
set_option maxRecDepth 100000
set_option maxHeartbeats 4000000
theorem polsV_lt {q:Pms} {p:Nat} {sec rnd:List Nat} {k:Nat} (hp:0<p):∀ c∈polsV q p sec rnd k,∀ x∈c,x<p:=by
 intro c hc x hx
 obtain⟨i,_,rfl⟩:=List.mem_map.1 hc
 obtain⟨y,_,rfl⟩:=List.mem_map.1 hx
 exact Nat.mod_lt _ hp
theorem refdealD_any (q:Pms) (hq:q.ok) (a1 a2:Option Addr) (m1 m2 c1 c2:Nat) (sec rnd:List Nat) (S:Nat->Prop) (w:World) (hS:∀ k,S k->k<w.heap.size) (hm1:m1=sec.length) (hm2:m2=rnd.length) (hc1:m1<=c1) (hc2:m2<=c2) (hs1:Small sec) (hs2:Small rnd) (hl1:m1<=5000) (hl2:m2<=100000)
  (h1:BsAt w a1 sec S) (h2:BsAt w a2 rnd S) :
  Calls Tryz.prog 27 #[q.val,.slice a1 m1 c1,.slice a2 m2 c2] w fun e w'=>∃ v,e=.returned (.tuple #[v,.int .i64 (polE q sec rnd:Int)])/\(polE q sec rnd=0->EvD q (modN q.fd) (polsV q (modN q.fd) sec rnd q.cn) q.sh.toNat w.heap.size w' v)/\(polE q sec rnd≠0->v=.slice none 0 0)/\Off (fun _=>False) w w':=by
 have FP:=hid (fun W (h:Off (fun _=>False) w W)=>refpols_any q hq a1 a2 m1 m2 c1 c2 sec rnd S W (fun k hk=>Nat.lt_of_lt_of_le (hS k hk) h.size) hm1 hm2 hc1 hc2 hs1 hs2 hl1 hl2 (h1.off h (fun _ _ _ c=>c)) (h2.off h (fun _ _ _ c=>c)))
 obtain⟨r,hr⟩:∃ r,r=polE q sec rnd:=⟨_,rfl⟩
 rw[<-hr]at FP ⊢
 by_cases h0:r=0
 ·have hpr:=(polE_ok (hr.symm.trans h0)).1
  have hpos:=modN_pos (prN_ok hpr).1
  obtain⟨p,hp⟩:∃ p,p=modN q.fd:=⟨_,rfl⟩
  rw[if_pos h0]at FP
  rw[<-hp]at FP hpos ⊢
  obtain⟨cs,hcs⟩:∃ cs,cs=polsV q p sec rnd q.cn:=⟨_,rfl⟩
  have FE:=hid (fun W v (h:LLs W v cs)=>refevaD_any q hq hpr p hp cs (by rw[hcs];exact polsV_lt (by omega)) v W h)
  rw[<-hcs]at FP ⊢
  subst h0
  obtain⟨n,hn⟩:∃ n,n=q.sh.toNat:=⟨_,rfl⟩
  rw[<-hn]at FE ⊢
  obtain⟨fd,th,sh,ln⟩:=q
  unfold Pms.val at FP FE ⊢
  dsimp only at FP FE ⊢
  clear hr hpr hpos hp hcs hn h1 h2 hS hm1 hm2 hc1 hc2 hs1 hs2 hq hl1 hl2
  obtain⟨w0,hw0⟩:∃ w0,w0=w.alloc (.cells #[.int .i64 fd,.int .i64 th,.int .i64 sh,.int .i64 ln] 51):=⟨_,rfl⟩
  have HO0:=hid (show Off (fun _=>False) w w0 by rw[hw0];exact(Off.refl _ w).alloc _)
  have HG0:=hid (show w0.heap[w.heap.size]?=some (.cells #[.int .i64 fd,.int .i64 th,.int .i64 sh,.int .i64 ln] 51 (0,0)) by rw[hw0];exact heap_new' rfl _)
  have HW0:=hid hw0
  clear hw0
  go_enter Tryz.func27,Tryz.ntmps27
  go_wp2_with fail
  rw[<-HW0.out]
  refine(FP.out _ HO0.out).mono ?_
  rintro e u1 ⟨v,rfl,hv,hO⟩
  have HV:=hid hv
  have HO1:=hid (HO0.out.trans hO (fun _ _ c=>c))
  have g1:=hO.heap HG0.out (fun c=>c)
  have p0:=cell_of_heap g1 0
  have p1:=cell_of_heap g1 1
  have p2:=cell_of_heap g1 2
  have p3:=cell_of_heap g1 3
  have lp:=heap_lt g1
  clear hv hO g1
  go_wp2_with fail
  refine(FE.out _ _ HV.out).mono ?_
  rintro e u2 ⟨v',rfl,hev,hO⟩
  have HE:=hid (hev.base HO1.out.size)
  have HO2:=hid (HO1.out.trans hO (fun _ _ c=>c))
  clear hev hO p0 p1 p2 p3 lp
  go_wp2
  exact bodyPost_ret (v:=.tuple #[v',.int .i64 0]) (by simp[results,Tryz.results27,go_sem]) rfl ⟨_,rfl,fun _=>HE.out,fun h=>absurd rfl h,HO2.out⟩
 have hr0:¬((r:Int)=0):=by omega
 rw[if_neg h0]at FP
 have H0:=hid h0
 obtain⟨fd,th,sh,ln⟩:=q
 unfold Pms.val at FP ⊢
 dsimp only at FP ⊢
 clear hr h1 h2 hS hm1 hm2 hc1 hc2 hs1 hs2 hq h0 hl1 hl2
 go_enter Tryz.func27,Tryz.ntmps27
 go_wp2_with fail
 refine(FP.out _ ((Off.refl _ w).alloc _)).mono ?_
 rintro e u1 ⟨v,rfl,hv,hO⟩
 have HO1:=hid (((Off.refl (fun _=>False) w).alloc (.cells #[.int .i64 fd,.int .i64 th,.int .i64 sh,.int .i64 ln] 51)).trans hO (fun _ _ c=>c))
 clear hv hO
 go_wp2
 exact bodyPost_ret (v:=.tuple #[.slice none 0 0,.int .i64 r]) (by simp[results,Tryz.results27,go_sem]) rfl ⟨_,rfl,fun h=>absurd h H0.out,fun _=>rfl,HO1.out⟩
end
section
open Go.RowKit
set_option maxRecDepth 100000
theorem payN_red17 (p:Nat) (cs:List (List Nat)) (i:Nat):payN p (cs.map (·.map (·%p))) i=payN p cs i:=by
 unfold payN
 rw[List.map_map]
 apply List.map_congr_left
 intro c _
 show fm p (pv (c.map (·%p)) i%p)=_
 rw[pv_redJ]
theorem polsV_eq17 (q:Pms) (p:Nat) (sec rnd:List Nat):polsV q p sec rnd q.cn=(polsN q sec rnd).map (·.map (·%p)):=by
 unfold polsV polsN
 rw[List.map_map];rfl
theorem shrN_red17 (q:Pms) (p:Nat) (sec rnd:List Nat) (i:Nat):shrN q p (polsV q p sec rnd q.cn) i=shrN q p (polsN q sec rnd) i:=by
 unfold shrN
 rw[polsV_eq17,payN_red17]
theorem shrsN_red17 (q:Pms) (p:Nat) (sec rnd:List Nat):shrsN q p (polsV q p sec rnd q.cn)=shrsN q p (polsN q sec rnd):=by
 unfold shrsN
 apply List.map_congr_left
 intro k _
 rw[shrN_red17]
section
variable {q:Pms} {sec rnd:List Nat} {l:List Sh}
end
theorem fm_ltR17 {p:Nat} (h1:0<p) (h2:p<R256) (x:Nat):fm p x<R256:=Nat.lt_trans (fm_lt17 h1 x) h2
theorem shrN_ok17 {q:Pms} (hq:q.ok) {p:Nat} (h1:0<p) (h2:p<R256) (cs:List (List Nat)) {i:Nat} (hi:i<=1000):(shrN q p cs i).ok :=
 ⟨hq.1,hq.2.1,WalkArith.wf_i64 (by show -9223372036854775808<=(i:Int)/\(i:Int)<=9223372036854775807;omega),hq.2.2.2,fun x hx=>by
  obtain⟨c,_,rfl⟩:=List.mem_map.1 hx
  exact fm_ltR17 h1 h2 _⟩
end
section
open Go.RowKit
attribute [local go_sem ↓] Go.wp_at_zero Go.wp_at_succ
set_option linter.unusedSimpArgs false
set_option maxRecDepth 100000
set_option maxHeartbeats 4000000
def ShV.withP (x:ShV) (pl:List Nat) (pa:Option Addr) (pc:Nat):ShV:=⟨⟨x.sh.fd,x.sh.th,x.sh.ix,x.sh.ln,pl⟩,pa,pc⟩
theorem row_cells18 {W:World} {B g n cap:Nat} {L:List ShV} (h:RowS B W (.slice (some ⟨g,0,none⟩) n cap) L) (hn:n=L.length) {j:Nat} {x:ShV} (hj:L[j]?=some x) :
  W.cell? ⟨g,j*5,none⟩=some (.int .i64 x.sh.fd)/\W.cell? ⟨g,j*5+1,none⟩=some (.int .i64 x.sh.th)/\W.cell? ⟨g,j*5+2,none⟩=some (.int .i64 x.sh.ix)/\W.cell? ⟨g,j*5+3,none⟩=some (.int .i64 x.sh.ln)/\W.cell? ⟨g,j*5+4,none⟩=some (.slice x.pa x.sh.pl.length x.pc):=by
 have hlt:=(List.getElem?_eq_some_iff.1 hj).1
 unfold RowS at h
 rw[<-hn]at h
 have c:=fun k (hk:k<5)=>(World.ownsRow.cellAt h (j*5+k) (by omega)).trans (flat5_get L j k x hj hk)
 exact⟨c 0 (by decide),c 1 (by decide),c 2 (by decide),c 3 (by decide),c 4 (by decide)⟩
theorem map_withP (L:List ShV) (i:Nat) (x:ShV) (pl:List Nat) (pa:Option Addr) (pc:Nat):(L.set i (x.withP pl pa pc)).map ShV.sh=setP (L.map ShV.sh) i x.sh pl:=by
 unfold setP
 rw[List.map_set];rfl
end
end Go.Proofs.YtbkgghhngeibhaaGreatDoor
