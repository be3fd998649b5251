/-
  Combining shares in plain terms: the used shares, their values, the polynomials through them, the secret; shares of a secret yield it. Plain facts.
-/
import Derived.Test.YtbkgghhngeibhaaGreatDoorLagBase
import Derived.Test.YtbkgghhngeibhaaGreatDoorParGrp
import Derived.Deep.OwnRows
import Derived.Shelf.Bytes.SlEqualAll
namespace Go.Proofs.YtbkgghhngeibhaaGreatDoor
section
open Go.RowKit
def jys (p:Nat) (u:List Sh) (k:Nat):List Nat:=(colN u k).map (fun y=>mm p y 1)
def jpl (p:Nat) (u:List Sh) (k:Nat):List Nat:=itpL p (ptV (ixs u)) (jys p u k)
structure Acc (s0:Sh) (l:List Sh):Prop where
 first:l[0]?=some s0
 kn:Kn s0.fd
 th1:1<=s0.th
 th2:s0.th<=255
 few:s0.th.toNat<=l.length
 ln1:0<=s0.ln
 ln2:s0.ln<=65535
 nodup:(ixs l).Nodup
 all:∀ s∈l,SameH s s0/\1<=s.ix/\s.ix<=255/\s.pl.length=cntI s0.ln/\∀ x∈s.pl,x<modN s0.fd
theorem shN_zero {s:Sh} (h:shN s=0):Kn s.fd/\1<=s.th/\s.th<=255/\1<=s.ix/\s.ix<=255/\0<=s.ln/\s.ln<=65535/\s.pl.length=cntI s.ln/\∀ x∈s.pl,x<modN s.fd:=by
 unfold shN at h
 split at h
 ·exact absurd h (by decide)
 next c1 =>
 split at h
 ·exact absurd h (by decide)
 split at h
 ·exact absurd h (by decide)
 split at h
 ·exact absurd h (by decide)
 split at h
 ·exact absurd h (by decide)
 next c5 =>
 split at h
 ·next c6=>exact⟨by simpa using c1,by omega,by omega,by omega,by omega,by omega,by omega,by omega,c6⟩
 exact absurd h (by decide)
theorem acc_of {l:List Sh} (h:shsN l=0):∃ s0,Acc s0 l:=by
 unfold shsN at h
 split at h
 ·next c=>exact absurd h c
 next c1 =>
 have c1':firstE l=0:=by omega
 split at h
 ·exact absurd h (by decide)
 next c2 =>
 split at h
 ·exact absurd h (by decide)
 next c3 =>
 split at h
 ·exact absurd h (by decide)
 next c4 =>
 have c2':OneH l:=Decidable.byContradiction c2
 have c3':(ixs l).Nodup:=Decidable.byContradiction c3
 cases l with
 | nil=>exact absurd (.inl rfl) c4
 | cons s0 r =>
  have hz:=firstE_zero.1 c1'
  have h0:=shN_zero (hz s0 (by simp))
  refine⟨s0,⟨rfl,h0.1,h0.2.1,h0.2.2.1,?_,h0.2.2.2.2.2.1,h0.2.2.2.2.2.2.1,c3',fun s hs=>?_⟩⟩
  ·have:¬(((s0::r).length:Int)<s0.th):=fun c=>c4 (.inr ⟨s0,by simp,c⟩)
   omega
  have h1:=shN_zero (hz s hs)
  have h2:=c2' s hs s0 (by simp)
  exact⟨h2,h1.2.2.2.1,h1.2.2.2.2.1,by rw[h1.2.2.2.2.2.2.2.1,h2.2.2],by rw[<-h2.1];exact h1.2.2.2.2.2.2.2.2⟩
section
variable {s0:Sh} {l:List Sh}
end
theorem jys_length (p:Nat) (u:List Sh) (k:Nat):(jys p u k).length=u.length:=by simp[jys,colN_length]
theorem ptV_ixs (u:List Sh):(ptV (ixs u)).length=u.length:=by rw[ptV_length];simp[ixs]
theorem fm_out {p:Nat} (h:Mp p) {y:Nat} (hy:y<p):fm p (mm p y 1)=y:=by
 have h1:=mm_r h y 1
 rw[fm_eq,Nat.mul_comm,h1,Nat.mul_one,Nat.mod_eq_of_lt hy]
theorem jys_fm {p:Nat} (h:Mp p) {u:List Sh} {k:Nat} (hc:∀ y∈colN u k,y<p):(jys p u k).map (fm p)=colN u k:=by
 unfold jys
 rw[List.map_map]
 conv=>rhs;rw[<-List.map_id (colN u k)]
 exact List.map_congr_left fun y hy=>fm_out h (hc y hy)
theorem pv_redJ (p a:Nat):∀ c:List Nat,pv (c.map (·%p)) a%p=pv c a%p
 | []=>rfl
 | x::r=>by
  simp only[List.map_cons,pv]
  exact md_add (Nat.mod_mod _ _) (md_mul rfl (pv_redJ p a r))
theorem big_p {id:Int} (h:Kn id):256^31<modN id:=by rcases h with rfl | rfl <;> decide
def hd0 (l:List Sh):Sh:=l.headD ⟨0,0,0,0,[]⟩
theorem Acc.hd {s0:Sh} {l:List Sh} (h:Acc s0 l):hd0 l=s0:=by
 have:=h.first
 cases l with
 | nil=>simp at this
 | cons x r=>simpa[hd0]using this
theorem acc_hd {l:List Sh} (h:shsN l=0):Acc (hd0 l) l:=by
 obtain⟨s0,hA⟩:=acc_of h
 rw[hA.hd];exact hA
def pJ (l:List Sh):Nat:=modN (hd0 l).fd
def TJ (l:List Sh):Nat:=(hd0 l).th.toNat
def cJ (l:List Sh):Nat:=cntI (hd0 l).ln
end
end Go.Proofs.YtbkgghhngeibhaaGreatDoor
