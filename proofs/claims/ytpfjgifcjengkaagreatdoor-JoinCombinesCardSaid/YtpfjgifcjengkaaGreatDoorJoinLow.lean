/-
  Combining shares in plain terms: the used shares, their values, the polynomials through them, the secret; shares of a secret yield it. Plain facts.
  Few shares with short payloads have few events. Plain facts.
-/
import Derived.Test.YtpfjgifcjengkaaGreatDoorDealPlain
import Derived.Test.YtpfjgifcjengkaaGreatDoorLagBase
import Derived.Test.YtpfjgifcjengkaaGreatDoorParGrp
import Derived.Test.YtpfjgifcjengkaaGreatDoorPolLists
import Derived.Test.YtpfjgifcjengkaaGreatDoorPowAll
namespace Go.Proofs.YtpfjgifcjengkaaGreatDoor
section
open Go.RowKit
def usd (s0:Sh) (l:List Sh):List Sh:=l.take s0.th.toNat
def jys (p:Nat) (u:List Sh) (k:Nat):List Nat:=(colN u k).map (fun y=>mm p y 1)
def jpl (p:Nat) (u:List Sh) (k:Nat):List Nat:=itpL p (ptV (ixs u)) (jys p u k)
def jpls (p:Nat) (u:List Sh) (c:Nat):List (List Nat):=(List.range c).map (jpl p u)
def jvl (p:Nat) (u:List Sh) (c:Nat):List Nat:=(List.range c).map fun k=>(jpl p u k).getD 0 0
structure Acc (s0:Sh) (l:List Sh):Prop where
 first:l[0]?=some s0
 kn:Kn s0.fd
 th1:1<=s0.th
 th2:s0.th<=255
 few:s0.th.toNat<=l.length
 ln1:0<=s0.ln
 ln2:s0.ln<=65535
 nodup:(ixs l).Nodup
 all:∀ s∈l,SameH s s0/\1<=s.ix/\s.ix<=255/\s.pl.length=cntI s0.ln/\∀ x∈s.pl,x<modN s0.fd
theorem shN_zero {s:Sh} (h:shN s=0):Kn s.fd/\1<=s.th/\s.th<=255/\1<=s.ix/\s.ix<=255/\0<=s.ln/\s.ln<=65535/\s.pl.length=cntI s.ln/\∀ x∈s.pl,x<modN s.fd:=by
 unfold shN at h
 split at h
 ·exact absurd h (by decide)
 next c1 =>
 split at h
 ·exact absurd h (by decide)
 split at h
 ·exact absurd h (by decide)
 split at h
 ·exact absurd h (by decide)
 split at h
 ·exact absurd h (by decide)
 next c5 =>
 split at h
 ·next c6=>exact⟨by simpa using c1,by omega,by omega,by omega,by omega,by omega,by omega,by omega,c6⟩
 exact absurd h (by decide)
theorem acc_of {l:List Sh} (h:shsN l=0):∃ s0,Acc s0 l:=by
 unfold shsN at h
 split at h
 ·next c=>exact absurd h c
 next c1 =>
 have c1':firstE l=0:=by omega
 split at h
 ·exact absurd h (by decide)
 next c2 =>
 split at h
 ·exact absurd h (by decide)
 next c3 =>
 split at h
 ·exact absurd h (by decide)
 next c4 =>
 have c2':OneH l:=Decidable.byContradiction c2
 have c3':(ixs l).Nodup:=Decidable.byContradiction c3
 cases l with
 | nil=>exact absurd (.inl rfl) c4
 | cons s0 r =>
  have hz:=firstE_zero.1 c1'
  have h0:=shN_zero (hz s0 (by simp))
  refine⟨s0,⟨rfl,h0.1,h0.2.1,h0.2.2.1,?_,h0.2.2.2.2.2.1,h0.2.2.2.2.2.2.1,c3',fun s hs=>?_⟩⟩
  ·have:¬(((s0::r).length:Int)<s0.th):=fun c=>c4 (.inr ⟨s0,by simp,c⟩)
   omega
  have h1:=shN_zero (hz s hs)
  have h2:=c2' s hs s0 (by simp)
  exact⟨h2,h1.2.2.2.1,h1.2.2.2.2.1,by rw[h1.2.2.2.2.2.2.2.1,h2.2.2],by rw[<-h2.1];exact h1.2.2.2.2.2.2.2.2⟩
section
variable {s0:Sh} {l:List Sh}
theorem Acc.len (h:Acc s0 l):(usd s0 l).length=s0.th.toNat:=by unfold usd;rw[List.length_take];have:=h.few;omega
theorem Acc.mem (_:Acc s0 l) {s:Sh} (hs:s∈usd s0 l):s∈l:=List.mem_of_mem_take hs
theorem Acc.chk (h:Acc s0 l):chkV (ixs (usd s0 l))=0:=by
 refine chkV_ok (fun x hx=>?_) ?_
 ·obtain⟨s,hs,rfl⟩:=List.mem_map.1 hx
  have:=h.all s (h.mem hs)
  exact⟨this.2.1,this.2.2.1⟩
 unfold usd ixs
 rw[List.map_take]
 exact h.nodup.sublist (List.take_sublist _ _)
theorem Acc.col (h:Acc s0 l) (k:Nat):∀ y∈colN (usd s0 l) k,y<modN s0.fd:=by
 intro y hy
 unfold colN at hy
 obtain⟨s,hs,rfl⟩:=List.mem_map.1 hy
 rw[if_pos (by omega),Int.toNat_natCast,List.getD_eq_getElem?_getD]
 have ha:=h.all s (h.mem hs)
 cases hk:s.pl[k]? with
 | none=>exact Nat.lt_trans (by decide) (modN_pos h.kn).1
 | some x=>exact ha.2.2.2.2 x (List.mem_of_getElem? hk)
end
theorem jys_length (p:Nat) (u:List Sh) (k:Nat):(jys p u k).length=u.length:=by simp[jys,colN_length]
theorem ptV_ixs (u:List Sh):(ptV (ixs u)).length=u.length:=by rw[ptV_length];simp[ixs]
theorem fm_out {p:Nat} (h:Mp p) {y:Nat} (hy:y<p):fm p (mm p y 1)=y:=by
 have h1:=mm_r h y 1
 rw[fm_eq,Nat.mul_comm,h1,Nat.mul_one,Nat.mod_eq_of_lt hy]
theorem jys_fm {p:Nat} (h:Mp p) {u:List Sh} {k:Nat} (hc:∀ y∈colN u k,y<p):(jys p u k).map (fm p)=colN u k:=by
 unfold jys
 rw[List.map_map]
 conv=>rhs;rw[<-List.map_id (colN u k)]
 exact List.map_congr_left fun y hy=>fm_out h (hc y hy)
theorem jpl_lt {p:Nat} (h0:0<p) (u:List Sh) (k:Nat):∀ x∈jpl p u k,x<p:=itpF_lt h0 _ _ _
theorem jvl_lt {p:Nat} (h0:0<p) (u:List Sh) (c:Nat):∀ x∈jvl p u c,x<p:=by
 intro x hx
 obtain⟨k,_,rfl⟩:=List.mem_map.1 hx
 rw[List.getD_eq_getElem?_getD]
 cases hk:(jpl p u k)[0]? with
 | none=>exact h0
 | some x=>exact jpl_lt h0 u k x (List.mem_of_getElem? hk)
theorem jdot {p:Nat} (h0:0<p) (u:List Sh) (k:Nat):dotF p (zerL p (ptV (ixs u))) (jys p u k) u.length=(jpl p u k).getD 0 0:=by
 have e1:=dot_zero p (ptV (ixs u)) (jys p u k) u.length (by rw[ptV_ixs];exact Nat.le_refl _)
 have e2:pv (jpl p u k) 0%p=smF p (ptV (ixs u)) (jys p u k) 0 u.length%p:=by
  have:=pv_itpF p (ptV (ixs u)) (jys p u k) 0 u.length
  unfold jpl itpL
  rw[ptV_ixs]
  exact this
 rw[<-e2,Nat.mod_eq_of_lt (dotF_lt h0 _ _ _)]at e1
 rw[e1]
 cases hc:jpl p u k with
 | nil=>simp[pv]
 | cons v r =>
  show(v+0*_)%p=v
  rw[Nat.zero_mul,Nat.add_zero,Nat.mod_eq_of_lt (jpl_lt h0 u k v (by rw[hc];simp))]
theorem pv_redJ (p a:Nat):∀ c:List Nat,pv (c.map (·%p)) a%p=pv c a%p
 | []=>rfl
 | x::r=>by
  simp only[List.map_cons,pv]
  exact md_add (Nat.mod_mod _ _) (md_mul rfl (pv_redJ p a r))
structure Smj (q:Pms) (p:Nat) (sec rnd:List Nat) (u:List Sh):Prop where
 len:u.length=q.T
 shr:∀ s∈u,∃ i,1<=i/\i<=255/\s=shrN q p (polsN q sec rnd) i
 nodup:(ixs u).Nodup
theorem Smj.chkd {q:Pms} {p:Nat} {sec rnd:List Nat} {u:List Sh} (h:Smj q p sec rnd u):chkV (ixs u)=0:=by
 refine chkV_ok (fun x hx=>?_) h.nodup
 obtain⟨s,hs,rfl⟩:=List.mem_map.1 hx
 obtain⟨i,h1,h2,rfl⟩:=h.shr s hs
 show(1:Int)<=(i:Int)/\(i:Int)<=255
 omega
theorem Smj.jpl {q:Pms} {p:Nat} {sec rnd:List Nat} {u:List Sh} (h:Smj q p sec rnd u) (hm:Mp p) (h1:1<p) (hf:Fer p) (hbig:256<=p) (hT:1<=q.T) {k:Nat} (hk:k<q.cn):jpl p u k=(polN q sec rnd k).map (·%p):=by
 have hpt:=ptV_ixs u
 have hlt:∀ x∈ptV (ixs u),x<p:=ptV_lt hbig (fun x hx=>by
  obtain⟨s,hs,rfl⟩:=List.mem_map.1 hx
  obtain⟨i,h1,h2,rfl⟩:=h.shr s hs
  show(1:Int)<=(i:Int)/\(i:Int)<=255
  omega)
 have hap:Apart p (ptV (ixs u)):=by
  obtain⟨hr,hd⟩:=chkV_zero h.chkd
  refine apart_of hbig (fun v hv=>?_) (fun i k hi hk hik e=>?_)
  ·obtain⟨x,hx,rfl⟩:=List.mem_map.1 hv
   have:=hr x hx;omega
  rw[ptV_length]at hi hk
  rw[ptV_at (List.getElem?_eq_getElem hi),ptV_at (List.getElem?_eq_getElem hk)]at e
  have h1:=hr _ (List.getElem_mem hi)
  have h2:=hr _ (List.getElem_mem hk)
  have e2:(ixs u)[i]=(ixs u)[k]:=by omega
  have hp:=List.pairwise_iff_getElem.1 hd
  by_cases h:i<k
  ·exact hp i k hi hk h e2
  exact hp k i hk hi (by omega) e2.symm
 have hlen:((polN q sec rnd k).map (·%p)).length=q.T:=by rw[List.length_map,polN_length q sec rnd k hT]
 have hv:∀ j,j<(ptV (ixs u)).length->(jys p u k).getD j 0%p=pv ((polN q sec rnd k).map (·%p)) ((ptV (ixs u)).getD j 0)%p:=by
  intro j hj
  rw[hpt]at hj
  obtain⟨s,hs⟩:∃ s,u[j]?=some s:=⟨_,List.getElem?_eq_getElem hj⟩
  obtain⟨i,i1,i2,rfl⟩:=h.shr s (List.mem_of_getElem? hs)
  have e1:(ixs u)[j]?=some (i:Int):=by unfold ixs;rw[List.getElem?_map,hs];rfl
  rw[ptV_at e1,Int.toNat_natCast,pv_redJ]
  have e2:(jys p u k)[j]?=some (mm p (fm p (pv (polN q sec rnd k) i%p)) 1):=by
   unfold jys colN
   rw[List.getElem?_map,List.getElem?_map,hs]
   simp only[Option.map_some]
   rw[if_pos (by omega),Int.toNat_natCast]
   congr 2
   show((polsN q sec rnd).map fun c=>fm p (pv c i%p)).getD k 0=_
   rw[List.getD_eq_getElem?_getD,List.getElem?_map,polsN_get hk]
   rfl
  rw[List.getD_eq_getElem?_getD,e2]
  show mm p (fm p _) 1%p=_
  rw[mm_one hm,Nat.mod_mod,Nat.mod_mod]
 have he:=itp_values h1 hf (ptV (ixs u)) hlt hap ((polN q sec rnd k).map (·%p)) (fun v hv=>by
  obtain⟨x,_,rfl⟩:=List.mem_map.1 hv
  exact Nat.mod_lt _ (by omega)) (by rw[hlen,hpt,h.len];exact Nat.le_refl _) (jys p u k) hv
 rw[hlen,hpt,h.len,Nat.sub_self,List.replicate_zero,List.append_nil]at he
 exact he
theorem big_p {id:Int} (h:Kn id):256^31<modN id:=by rcases h with rfl | rfl <;> decide
def hd0 (l:List Sh):Sh:=l.headD ⟨0,0,0,0,[]⟩
theorem Acc.hd {s0:Sh} {l:List Sh} (h:Acc s0 l):hd0 l=s0:=by
 have:=h.first
 cases l with
 | nil=>simp at this
 | cons x r=>simpa[hd0]using this
theorem acc_hd {l:List Sh} (h:shsN l=0):Acc (hd0 l) l:=by
 obtain⟨s0,hA⟩:=acc_of h
 rw[hA.hd];exact hA
def pJ (l:List Sh):Nat:=modN (hd0 l).fd
def usJ (l:List Sh):List Sh:=usd (hd0 l) l
def TJ (l:List Sh):Nat:=(hd0 l).th.toNat
def cJ (l:List Sh):Nat:=cntI (hd0 l).ln
def vlJ (l:List Sh):List Nat:=jvl (pJ l) (usJ l) (cJ l)
def cmbJ (l:List Sh):List Nat × Nat:=if shsN l≠0 then([],shsN l) else joinV (vlJ l) (hd0 l).ln
def atE (l:List Sh) (ix:Int):Nat:=if shsN l≠0 then shsN l else if ix<1\/255<ix then 12 else 0
def atS (l:List Sh) (ix:Int):Sh:=if atE l ix≠0 then⟨0,0,0,0,[]⟩ else⟨(hd0 l).fd,(hd0 l).th,ix,(hd0 l).ln,payN (pJ l) (jpls (pJ l) (usJ l) (cJ l)) ix.toNat⟩
def vlsEv (T c:Nat):List Ev:=(wpE T T++batE T++upE T)++(List.range c).flatMap fun k:Nat=>((4:Int),(k:Int),(0:Int))::upE T
def atEv (T c:Nat):List Ev:=(List.range c).flatMap fun k:Nat=>((4:Int),(k:Int),(0:Int))::(wpE T T++batE T++prE T T++coefD T (List.range T))
end
section
open Go.RowKit
set_option maxRecDepth 100000
theorem one_at {W:World} {nb:Nat} {s:Sh} {pa:Option Addr} {pc:Nat} {T:TypeId} {S:Nat->Prop} (hok:s.ok) (hn:W.heap[nb]?=some (.cells #[.int .i64 s.fd,.int .i64 s.th,.int .i64 s.ix,.int .i64 s.ln,.slice pa s.pl.length pc] T (0,0))) (hl:s.pl.length<=pc) (hv:VsAt W (.slice pa s.pl.length pc) s.pl S):ShsAt W (.slice (some ⟨nb,0,none⟩) 1 1) [s] (fun _=>True):=by
 refine⟨some ⟨nb,0,none⟩,1,rfl,Nat.le_refl _,by unfold maxLen;simp,fun x hx=>by rw[List.mem_singleton.1 hx];exact hok,fun _=>⟨nb,0,rfl,trivial,fun j x hj=>?_⟩⟩
 match j,hj with
 | 0,hj =>
  cases hj
  obtain⟨a,cap,e,h1,h2,h4⟩:=hv
  refine⟨cell_of_heap hn 0,cell_of_heap hn 1,cell_of_heap hn 2,cell_of_heap hn 3,pa,pc,cell_of_heap hn 4,hl,a,cap,e,h1,h2,fun hp=>?_⟩
  obtain⟨b,off,ha,_,hx⟩:=h4 hp
  exact⟨b,off,ha,trivial,hx⟩
 | n+1,hj=>simp at hj
theorem atE_bad {l:List Sh} {ix:Int} {c:Nat} (hc:c=shsN l) (h:c≠0):atE l ix=c:=by unfold atE;rw[if_pos (by rw[<-hc];exact h),hc]
theorem atE_out {l:List Sh} {ix:Int} (h:shsN l=0) (hx:ix<1\/255<ix):atE l ix=12:=by unfold atE;rw[if_neg (fun c=>c h),if_pos hx]
theorem atE_in {l:List Sh} {ix:Int} (h:shsN l=0) (hx:¬(ix<1\/255<ix)):atE l ix=0:=by unfold atE;rw[if_neg (fun c=>c h),if_neg hx]
theorem atS_no {l:List Sh} {ix:Int} (h:atE l ix≠0):atS l ix=⟨0,0,0,0,[]⟩:=by unfold atS;rw[if_pos h]
theorem atS_in {l:List Sh} {ix:Int} (h:atE l ix=0):atS l ix=⟨(hd0 l).fd,(hd0 l).th,ix,(hd0 l).ln,payN (pJ l) (jpls (pJ l) (usJ l) (cJ l)) ix.toNat⟩:=by unfold atS;rw[if_neg (fun c=>c h)]
theorem vs_of_ls17 {W:World} {a:Option Addr} {c:Nat} {xs:List Nat} {S:Nat->Prop} (h:LsAt W (.slice a xs.length c) xs S) (hx:∀ x∈xs,x<R256):VsAt W (.slice a xs.length c) xs S:=by
 obtain⟨a',c',e,h1,h2⟩:=h
 exact⟨a',c',e,by unfold maxLen;omega,hx,h2⟩
end
end Go.Proofs.YtpfjgifcjengkaaGreatDoor
