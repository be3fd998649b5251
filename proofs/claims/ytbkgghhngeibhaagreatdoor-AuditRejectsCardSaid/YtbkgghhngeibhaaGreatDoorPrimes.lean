/-
  Plain arithmetic: the moduli of the two fields are primes, and Fermat's little theorem holds for them: by Lucas's criterion, down to small primes. No condition.
-/
import Derived.KernelRfl
namespace Go.Proofs.YtbkgghhngeibhaaGreatDoor

def Pr (q:Nat):Prop:=2<=q/\∀ d,d ∣ q->d=1\/d=q

theorem gcd_of_not_dvd {q e:Nat} (hq:Pr q) (h:¬q ∣ e):Nat.gcd q e=1:=by
 rcases hq.2 _ (Nat.gcd_dvd_left q e) with h1 | h1
 ·exact h1
 exact absurd (h1▸Nat.gcd_dvd_right q e) h

/-! ### Powers modulo N -/
theorem pow_mul_one {N g a:Nat} (h:g^a%N=1%N) (t r:Nat):g^(a*t+r)%N=g^r%N:=by
 rw[Nat.pow_add,Nat.pow_mul,Nat.mul_mod,Nat.pow_mod,h,<-Nat.pow_mod,Nat.one_pow,<-Nat.mul_mod,Nat.one_mul]
theorem pow_gcd {N g:Nat}:∀ a b:Nat,g^a%N=1%N->g^b%N=1%N->g^Nat.gcd a b%N=1%N:=by
 intro a b
 induction a,b using Nat.gcd.induction with
 | H0 n=>intro _ h;simpa using h
 | H1 m n hm ih =>
  intro h1 h2
  rw[Nat.gcd_rec]
  refine ih ?_ h1
  have:=pow_mul_one h1 (n / m) (n%m)
  rw[Nat.div_add_mod]at this
  rw[<-this];exact h2
theorem pow_cancel {N g m:Nat} (hm:0<m) (h:g^m%N=1%N) (i k:Nat) (hk:g^(i+k)%N=g^i%N):g^k%N=1%N:=by
 obtain⟨j,hj⟩:∃ j,m*i=i+j:=⟨m*i-i,by have:=Nat.le_mul_of_pos_left i hm;omega⟩
 have h1:=pow_mul_one h i k
 have h2:=pow_mul_one h i 0
 rw[Nat.add_zero,Nat.pow_zero]at h2
 rw[<-h1,<-h2,hj]
 have e:i+j+k=(i+k)+j:=by omega
 rw[e,Nat.pow_add,Nat.pow_add g i j,Nat.mul_mod,hk,<-Nat.mul_mod]

/-! ### Counting -/
theorem nodup_le:∀ (l l':List Nat),l.Nodup->(∀ x∈l,x∈l')->l.length<=l'.length:=by
 intro l
 induction l with
 | nil=>intro l' _ _;exact Nat.zero_le _
 | cons a l ih =>
  intro l' hn hs
  have hn':=List.nodup_cons.1 hn
  have ha:=hs a (by simp)
  have:=ih (l'.erase a) hn'.2 (fun x hx=>(List.mem_erase_of_ne (by rintro rfl;exact hn'.1 hx)).2 (hs x (by simp[hx])))
  rw[List.length_erase_of_mem ha]at this
  have hp:=List.length_pos_of_mem ha
  simp only[List.length_cons]
  omega
theorem dvd_prod {e:Nat}:∀ qs:List Nat,(∀ q∈qs,Pr q)->(∀ q∈qs,¬q ∣ e)->Nat.gcd e (qs.foldr (·*·) 1)=1:=by
 intro qs
 induction qs with
 | nil=>intro _ _;simp
 | cons q qs ih =>
  intro hp hd
  have h1:Nat.Coprime e q:=by
   have:=gcd_of_not_dvd (hp q (by simp)) (hd q (by simp))
   unfold Nat.Coprime;rw[Nat.gcd_comm];exact this
  have h2:Nat.Coprime e (qs.foldr (·*·) 1):=ih (fun q hq=>hp q (by simp[hq])) (fun q hq=>hd q (by simp[hq]))
  exact Nat.Coprime.mul_right h1 h2

theorem lucas {N g:Nat} (hN:2<=N) (qs:List Nat) (hprod:qs.foldr (·*·) 1=N-1) (hp:∀ q∈qs,Pr q) (h1:g^(N-1)%N=1) (h2:∀ q∈qs,g^((N-1) / q)%N≠1) :
  ∀ x,0<x->x<N->∃ k,g^k%N=x:=by
 have one:1%N=1:=Nat.mod_eq_of_lt (by omega)
 have h1':g^(N-1)%N=1%N:=by rw[h1,one]
 have order:∀ k,0<k->k<N-1->g^k%N≠1:=by
  intro k hk hlt h
  have hd:=pow_gcd k (N-1) (by rw[h,one]) h1'
  obtain⟨e,he⟩:=Nat.gcd_dvd_right k (N-1)
  have hle:Nat.gcd k (N-1)<=k:=Nat.gcd_le_left _ hk
  generalize Nat.gcd k (N-1)=d at *
  have hdp:0<d:=by
   rcases Nat.eq_zero_or_pos d with h0 | h0
   ·subst h0;simp at he;omega
   exact h0
  have he1:e≠1:=by
   intro c;subst c;rw[Nat.mul_one]at he;omega
  by_cases hq:∃ q∈qs,q ∣ e
  ·obtain⟨q,hq,f,hf⟩:=hq
   refine h2 q hq ?_
   have hq0:0<q:=by have:=(hp q hq).1;omega
   have e2:(N-1) / q=d*f:=by
    rw[he,hf,<-Nat.mul_assoc,Nat.mul_comm d q,Nat.mul_assoc,Nat.mul_div_cancel_left _ hq0]
   have:=pow_mul_one hd f 0
   rw[Nat.add_zero,Nat.pow_zero,one]at this
   rw[e2];exact this
  have hc:=dvd_prod qs hp (fun q hq' hdv=>hq ⟨q,hq',hdv⟩)
  rw[hprod,he,Nat.gcd_mul_left_right]at hc
  exact he1 hc
 have nz:∀ i,i<N-1->0<g^i%N:=by
  intro i hi
  rcases Nat.eq_zero_or_pos (g^i%N) with h0 | h0
  ·have e:N-1=i+(N-1-i):=by omega
   rw[e,Nat.pow_add,Nat.mul_mod,h0,Nat.zero_mul,Nat.zero_mod]at h1
   omega
  exact h0
 have nd:((List.range (N-1)).map (fun i=>g^i%N)).Nodup:=by
  unfold List.Nodup
  rw[List.pairwise_map]
  refine List.Pairwise.imp_of_mem ?_ (List.pairwise_lt_range)
  intro i j hi hj hij he
  have hj':j<N-1:=List.mem_range.1 hj
  have:g^(i+(j-i))%N=g^i%N:=by rw[show i+(j-i)=j by omega];exact he.symm
  have:=pow_cancel (by omega) h1' i (j-i) this
  rw[one]at this
  exact order (j-i) (by omega) (by omega) this
 intro x hx hxN
 by_cases hm:x∈(List.range (N-1)).map (fun i=>g^i%N)
 ·obtain⟨k,_,hk⟩:=List.mem_map.1 hm
  exact⟨k,hk⟩
 exfalso
 have:=nodup_le (x::(List.range (N-1)).map (fun i=>g^i%N)) ((List.range (N-1)).map (·+1)) (List.nodup_cons.2 ⟨hm,nd⟩) (fun y hy=>by
  refine List.mem_map.2 ⟨y-1,List.mem_range.2 ?_,?_⟩
  ·rcases List.mem_cons.1 hy with rfl | hy
   ·omega
   obtain⟨i,hi,rfl⟩:=List.mem_map.1 hy
   have:=nz i (List.mem_range.1 hi)
   have:=Nat.mod_lt (g^i) (show 0<N by omega)
   omega
  rcases List.mem_cons.1 hy with rfl | hy
  ·omega
  obtain⟨i,hi,rfl⟩:=List.mem_map.1 hy
  have:=nz i (List.mem_range.1 hi)
  omega)
 simp at this
 omega

theorem fermat_of {N g:Nat} (hN:2<=N) (h1:g^(N-1)%N=1) (hl:∀ x,0<x->x<N->∃ k,g^k%N=x) (x:Nat) (hx:x%N≠0):x^(N-1)%N=1:=by
 have one:1%N=1:=Nat.mod_eq_of_lt (by omega)
 obtain⟨k,hk⟩:=hl (x%N) (by omega) (Nat.mod_lt _ (by omega))
 rw[Nat.pow_mod,<-hk,<-Nat.pow_mod,<-Nat.pow_mul,Nat.mul_comm,Nat.pow_mul,Nat.pow_mod,h1,Nat.one_pow,one]
theorem pr_of {N g:Nat} (hN:2<=N) (h1:g^(N-1)%N=1) (hl:∀ x,0<x->x<N->∃ k,g^k%N=x):Pr N:=by
 refine⟨hN,fun d hd=>?_⟩
 by_cases hdN:d=N
 ·exact .inr hdN
 have hle:=Nat.le_of_dvd (by omega) hd
 have hpos:0<d:=Nat.pos_of_dvd_of_pos hd (by omega)
 have hm:d%N=d:=Nat.mod_eq_of_lt (by omega)
 have hf:=fermat_of hN h1 hl d (by omega)
 left
 have h2:d ∣ d^(N-1):=by
  have:N-1=(N-2)+1:=by omega
  rw[this,Nat.pow_succ];exact Nat.dvd_mul_left _ _
 have h3:d ∣ d^(N-1)%N:=(Nat.dvd_mod_iff hd).2 h2
 rw[hf]at h3
 exact Nat.dvd_one.1 h3

def pmod (N g:Nat):Nat->Nat->Nat
 | 0,_=>1%N
 | f+1,e=>pmod N g f (e / 2)^2*g^(e%2)%N
theorem pmod_eq (N g:Nat):∀ f e,e<2^f->pmod N g f e=g^e%N:=by
 intro f
 induction f with
 | zero =>
  intro e he
  obtain rfl:e=0:=by simpa using he
  simp[pmod]
 | succ f ih =>
  intro e he
  rw[pmod,ih (e / 2) (by rw[Nat.pow_succ]at he;omega),Nat.mul_mod,<-Nat.pow_mod,<-Nat.pow_mul,<-Nat.mul_mod,<-Nat.pow_add]
  congr 2;omega
theorem pr_lucas {N:Nat} (g:Nat) (qs:List Nat) (hp:∀ q∈qs,Pr q) (hN:2<=N/\N<2^256) (hprod:qs.foldr (·*·) 1=N-1) (h1:pmod N g 256 (N-1)=1) (h2:qs.all (fun q=>pmod N g 256 ((N-1) / q) != 1)=true) :
  Pr N/\∀ x,x%N≠0->x^(N-1)%N=1:=by
 have e1:g^(N-1)%N=1:=by rw[<-pmod_eq N g 256 _ (by omega)];exact h1
 have e2:∀ q∈qs,g^((N-1) / q)%N≠1:=by
  intro q hq
  have:=List.all_eq_true.1 h2 q hq
  rw[pmod_eq N g 256 _ (Nat.lt_of_le_of_lt (Nat.div_le_self _ _) (by omega))]at this
  simpa using this
 have hl:=lucas hN.1 qs hprod hp e1 e2
 exact⟨pr_of hN.1 e1 hl,fun x hx=>fermat_of hN.1 e1 hl x hx⟩

def noDiv (q:Nat):Nat->Nat->Bool
 | 0,_=>true
 | n+1,d=>(q%d != 0)&&noDiv q n (d+1)
theorem noDiv_spec (q:Nat):∀ n d,noDiv q n d=true->∀ k,k<n->q%(d+k)≠0:=by
 intro n
 induction n with
 | zero=>intro d _ k hk;omega
 | succ n ih =>
  intro d h k hk
  simp only[noDiv,Bool.and_eq_true,bne_iff_ne,ne_eq]at h
  cases k with
  | zero=>simpa using h.1
  | succ k=>have:=ih (d+1) h.2 k (by omega);rw[show d+(k+1)=d+1+k by omega];exact this
theorem pr_small {q:Nat} (n:Nat) (h2:2<=q) (hn:q<(n+2)*(n+2)) (h:noDiv q n 2=true):Pr q:=by
 refine⟨h2,fun d hd=>?_⟩
 have key:∀ d,d ∣ q->2<=d->n+2<=d:=by
  intro d hd h2
  rcases Nat.lt_or_ge d (n+2) with hlt | hge
  ·have:=noDiv_spec q n 2 h (d-2) (by omega)
   rw[show 2+(d-2)=d by omega]at this
   exact absurd (Nat.mod_eq_zero_of_dvd hd) this
  exact hge
 obtain⟨e,he⟩:=hd
 by_cases hd1:d=1
 ·exact .inl hd1
 by_cases he1:e=1
 ·subst he1;right;omega
 exfalso
 have hd0:d≠0:=by rintro rfl;simp at he;omega
 have he0:e≠0:=by rintro rfl;simp at he;omega
 have k1:=key d ⟨e,he⟩ (by omega)
 have k2:=key e ⟨d,by rw[he,Nat.mul_comm]⟩ (by omega)
 have:=Nat.mul_le_mul k1 k2
 omega

theorem pr_2:Pr 2:=pr_small 0 (by decide) (by decide) (by decide +kernel)
theorem pr_3:Pr 3:=pr_small 0 (by decide) (by decide) (by decide +kernel)
theorem pr_32573:Pr 32573:=pr_small 179 (by decide) (by decide) (by decide +kernel)
theorem pr_65147:Pr 65147:=(pr_lucas (N:=65147) 2 [2,32573] (fun q hq=>by simp only[List.mem_cons,List.not_mem_nil,or_false]at hq;rcases hq with rfl | rfl <;> first | exact pr_2 | exact pr_32573) (by decide +kernel) (by decide +kernel) (by decide +kernel) (by decide +kernel)).1
theorem pr_353:Pr 353:=pr_small 17 (by decide) (by decide) (by decide +kernel)
theorem pr_59:Pr 59:=pr_small 6 (by decide) (by decide) (by decide +kernel)
theorem pr_487:Pr 487:=pr_small 21 (by decide) (by decide) (by decide +kernel)
theorem pr_57467:Pr 57467:=(pr_lucas (N:=57467) 2 [2,59,487] (fun q hq=>by simp only[List.mem_cons,List.not_mem_nil,or_false]at hq;rcases hq with rfl | rfl | rfl <;> first | exact pr_2 | exact pr_59 | exact pr_487) (by decide +kernel) (by decide +kernel) (by decide +kernel) (by decide +kernel)).1
theorem pr_7:Pr 7:=pr_small 1 (by decide) (by decide) (by decide +kernel)
theorem pr_131:Pr 131:=pr_small 10 (by decide) (by decide) (by decide +kernel)
theorem pr_132049:Pr 132049:=(pr_lucas (N:=132049) 26 [2,2,2,2,3,3,7,131] (fun q hq=>by simp only[List.mem_cons,List.not_mem_nil,or_false]at hq;rcases hq with rfl | rfl | rfl | rfl | rfl | rfl | rfl | rfl <;> first | exact pr_2 | exact pr_3 | exact pr_7 | exact pr_131) (by decide +kernel) (by decide +kernel) (by decide +kernel) (by decide +kernel)).1
theorem pr_43:Pr 43:=pr_small 5 (by decide) (by decide) (by decide +kernel)
theorem pr_3727:Pr 3727:=pr_small 60 (by decide) (by decide) (by decide +kernel)
theorem pr_1923133:Pr 1923133:=(pr_lucas (N:=1923133) 2 [2,2,3,43,3727] (fun q hq=>by simp only[List.mem_cons,List.not_mem_nil,or_false]at hq;rcases hq with rfl | rfl | rfl | rfl | rfl <;> first | exact pr_2 | exact pr_3 | exact pr_43 | exact pr_3727) (by decide +kernel) (by decide +kernel) (by decide +kernel) (by decide +kernel)).1
theorem pr_31:Pr 31:=pr_small 4 (by decide) (by decide) (by decide +kernel)
theorem pr_107:Pr 107:=pr_small 9 (by decide) (by decide) (by decide +kernel)
theorem pr_223:Pr 223:=pr_small 13 (by decide) (by decide) (by decide +kernel)
theorem pr_4153:Pr 4153:=pr_small 63 (by decide) (by decide) (by decide +kernel)
theorem pr_5:Pr 5:=pr_small 1 (by decide) (by decide) (by decide +kernel)
theorem pr_1723:Pr 1723:=pr_small 40 (by decide) (by decide) (by decide +kernel)
theorem pr_430751:Pr 430751:=(pr_lucas (N:=430751) 17 [2,5,5,5,1723] (fun q hq=>by simp only[List.mem_cons,List.not_mem_nil,or_false]at hq;rcases hq with rfl | rfl | rfl | rfl | rfl <;> first | exact pr_2 | exact pr_5 | exact pr_1723) (by decide +kernel) (by decide +kernel) (by decide +kernel) (by decide +kernel)).1
theorem pr_31757755568855353:Pr 31757755568855353:=(pr_lucas (N:=31757755568855353) 10 [2,2,2,3,31,107,223,4153,430751] (fun q hq=>by simp only[List.mem_cons,List.not_mem_nil,or_false]at hq;rcases hq with rfl | rfl | rfl | rfl | rfl | rfl | rfl | rfl | rfl <;> first | exact pr_2 | exact pr_3 | exact pr_31 | exact pr_107 | exact pr_223 | exact pr_4153 | exact pr_430751) (by decide +kernel) (by decide +kernel) (by decide +kernel) (by decide +kernel)).1
theorem pr_37853:Pr 37853:=pr_small 193 (by decide) (by decide) (by decide +kernel)
theorem pr_75707:Pr 75707:=(pr_lucas (N:=75707) 2 [2,37853] (fun q hq=>by simp only[List.mem_cons,List.not_mem_nil,or_false]at hq;rcases hq with rfl | rfl <;> first | exact pr_2 | exact pr_37853) (by decide +kernel) (by decide +kernel) (by decide +kernel) (by decide +kernel)).1
theorem pr_13:Pr 13:=pr_small 2 (by decide) (by decide) (by decide +kernel)
theorem pr_2437:Pr 2437:=pr_small 48 (by decide) (by decide) (by decide +kernel)
theorem pr_97:Pr 97:=pr_small 8 (by decide) (by decide) (by decide +kernel)
theorem pr_419:Pr 419:=pr_small 19 (by decide) (by decide) (by decide +kernel)
theorem pr_569003:Pr 569003:=(pr_lucas (N:=569003) 2 [2,7,97,419] (fun q hq=>by simp only[List.mem_cons,List.not_mem_nil,or_false]at hq;rcases hq with rfl | rfl | rfl | rfl <;> first | exact pr_2 | exact pr_7 | exact pr_97 | exact pr_419) (by decide +kernel) (by decide +kernel) (by decide +kernel) (by decide +kernel)).1
theorem pr_2773320623:Pr 2773320623:=(pr_lucas (N:=2773320623) 5 [2,2437,569003] (fun q hq=>by simp only[List.mem_cons,List.not_mem_nil,or_false]at hq;rcases hq with rfl | rfl | rfl <;> first | exact pr_2 | exact pr_2437 | exact pr_569003) (by decide +kernel) (by decide +kernel) (by decide +kernel) (by decide +kernel)).1
theorem pr_72106336199:Pr 72106336199:=(pr_lucas (N:=72106336199) 7 [2,13,2773320623] (fun q hq=>by simp only[List.mem_cons,List.not_mem_nil,or_false]at hq;rcases hq with rfl | rfl | rfl <;> first | exact pr_2 | exact pr_13 | exact pr_2773320623) (by decide +kernel) (by decide +kernel) (by decide +kernel) (by decide +kernel)).1
theorem pr_19:Pr 19:=pr_small 3 (by decide) (by decide) (by decide +kernel)
theorem pr_47:Pr 47:=pr_small 5 (by decide) (by decide) (by decide +kernel)
theorem pr_127:Pr 127:=pr_small 10 (by decide) (by decide) (by decide +kernel)
theorem pr_103:Pr 103:=pr_small 9 (by decide) (by decide) (by decide +kernel)
theorem pr_991:Pr 991:=pr_small 30 (by decide) (by decide) (by decide +kernel)
theorem pr_8574133:Pr 8574133:=(pr_lucas (N:=8574133) 2 [2,2,3,7,103,991] (fun q hq=>by simp only[List.mem_cons,List.not_mem_nil,or_false]at hq;rcases hq with rfl | rfl | rfl | rfl | rfl | rfl <;> first | exact pr_2 | exact pr_3 | exact pr_7 | exact pr_103 | exact pr_991) (by decide +kernel) (by decide +kernel) (by decide +kernel) (by decide +kernel)).1
theorem pr_1919519569386763:Pr 1919519569386763:=(pr_lucas (N:=1919519569386763) 2 [2,3,7,19,47,47,127,8574133] (fun q hq=>by simp only[List.mem_cons,List.not_mem_nil,or_false]at hq;rcases hq with rfl | rfl | rfl | rfl | rfl | rfl | rfl | rfl <;> first | exact pr_2 | exact pr_3 | exact pr_7 | exact pr_19 | exact pr_47 | exact pr_127 | exact pr_8574133) (by decide +kernel) (by decide +kernel) (by decide +kernel) (by decide +kernel)).1
theorem pr_75445702479781427272750846543864801:Pr 75445702479781427272750846543864801:=(pr_lucas (N:=75445702479781427272750846543864801) 7 [2,2,2,2,2,3,3,5,5,75707,72106336199,1919519569386763] (fun q hq=>by simp only[List.mem_cons,List.not_mem_nil,or_false]at hq;rcases hq with rfl | rfl | rfl | rfl | rfl | rfl | rfl | rfl | rfl | rfl | rfl | rfl <;> first | exact pr_2 | exact pr_3 | exact pr_5 | exact pr_75707 | exact pr_72106336199 | exact pr_1919519569386763) (by decide +kernel) (by decide +kernel) (by decide +kernel) (by decide +kernel)).1
theorem pr_74058212732561358302231226437062788676166966415465897661863160754340907:Pr 74058212732561358302231226437062788676166966415465897661863160754340907:=(pr_lucas (N:=74058212732561358302231226437062788676166966415465897661863160754340907) 2 [2,3,353,57467,132049,1923133,31757755568855353,75445702479781427272750846543864801] (fun q hq=>by simp only[List.mem_cons,List.not_mem_nil,or_false]at hq;rcases hq with rfl | rfl | rfl | rfl | rfl | rfl | rfl | rfl <;> first | exact pr_2 | exact pr_3 | exact pr_353 | exact pr_57467 | exact pr_132049 | exact pr_1923133 | exact pr_31757755568855353 | exact pr_75445702479781427272750846543864801) (by decide +kernel) (by decide +kernel) (by decide +kernel) (by decide +kernel)).1
def P1:Nat:=57896044618658097711785492504343953926634992332820282019728792003956564819949
theorem both_P1:Pr P1/\∀ x,x%P1≠0->x^(P1-1)%P1=1:=pr_lucas (N:=P1) 2 [2,2,3,65147,74058212732561358302231226437062788676166966415465897661863160754340907] (fun q hq=>by simp only[List.mem_cons,List.not_mem_nil,or_false]at hq;rcases hq with rfl | rfl | rfl | rfl | rfl <;> first | exact pr_2 | exact pr_3 | exact pr_65147 | exact pr_74058212732561358302231226437062788676166966415465897661863160754340907) (by decide +kernel) (by decide +kernel) (by decide +kernel) (by decide +kernel)
theorem pr_71:Pr 71:=pr_small 7 (by decide) (by decide) (by decide +kernel)
theorem pr_373:Pr 373:=pr_small 18 (by decide) (by decide) (by decide +kernel)
theorem pr_3407:Pr 3407:=pr_small 57 (by decide) (by decide) (by decide +kernel)
theorem pr_17449:Pr 17449:=pr_small 131 (by decide) (by decide) (by decide +kernel)
theorem pr_38189:Pr 38189:=pr_small 194 (by decide) (by decide) (by decide +kernel)
theorem pr_17:Pr 17:=pr_small 3 (by decide) (by decide) (by decide +kernel)
theorem pr_229:Pr 229:=pr_small 14 (by decide) (by decide) (by decide +kernel)
theorem pr_1201:Pr 1201:=pr_small 33 (by decide) (by decide) (by decide +kernel)
theorem pr_9350987:Pr 9350987:=(pr_lucas (N:=9350987) 2 [2,17,229,1201] (fun q hq=>by simp only[List.mem_cons,List.not_mem_nil,or_false]at hq;rcases hq with rfl | rfl | rfl | rfl <;> first | exact pr_2 | exact pr_17 | exact pr_229 | exact pr_1201) (by decide +kernel) (by decide +kernel) (by decide +kernel) (by decide +kernel)).1
theorem pr_187019741:Pr 187019741:=(pr_lucas (N:=187019741) 2 [2,2,5,9350987] (fun q hq=>by simp only[List.mem_cons,List.not_mem_nil,or_false]at hq;rcases hq with rfl | rfl | rfl | rfl <;> first | exact pr_2 | exact pr_5 | exact pr_9350987) (by decide +kernel) (by decide +kernel) (by decide +kernel) (by decide +kernel)).1
theorem pr_29:Pr 29:=pr_small 4 (by decide) (by decide) (by decide +kernel)
theorem pr_311:Pr 311:=pr_small 16 (by decide) (by decide) (by decide +kernel)
theorem pr_311245691:Pr 311245691:=(pr_lucas (N:=311245691) 2 [2,5,7,17,29,29,311] (fun q hq=>by simp only[List.mem_cons,List.not_mem_nil,or_false]at hq;rcases hq with rfl | rfl | rfl | rfl | rfl | rfl | rfl <;> first | exact pr_2 | exact pr_5 | exact pr_7 | exact pr_17 | exact pr_29 | exact pr_311) (by decide +kernel) (by decide +kernel) (by decide +kernel) (by decide +kernel)).1
theorem pr_622491383:Pr 622491383:=(pr_lucas (N:=622491383) 5 [2,311245691] (fun q hq=>by simp only[List.mem_cons,List.not_mem_nil,or_false]at hq;rcases hq with rfl | rfl <;> first | exact pr_2 | exact pr_311245691) (by decide +kernel) (by decide +kernel) (by decide +kernel) (by decide +kernel)).1
theorem pr_263:Pr 263:=pr_small 15 (by decide) (by decide) (by decide +kernel)
theorem pr_126241:Pr 126241:=(pr_lucas (N:=126241) 7 [2,2,2,2,2,3,5,263] (fun q hq=>by simp only[List.mem_cons,List.not_mem_nil,or_false]at hq;rcases hq with rfl | rfl | rfl | rfl | rfl | rfl | rfl | rfl <;> first | exact pr_2 | exact pr_3 | exact pr_5 | exact pr_263) (by decide +kernel) (by decide +kernel) (by decide +kernel) (by decide +kernel)).1
theorem pr_337:Pr 337:=pr_small 17 (by decide) (by decide) (by decide +kernel)
theorem pr_104471:Pr 104471:=(pr_lucas (N:=104471) 11 [2,5,31,337] (fun q hq=>by simp only[List.mem_cons,List.not_mem_nil,or_false]at hq;rcases hq with rfl | rfl | rfl | rfl <;> first | exact pr_2 | exact pr_5 | exact pr_31 | exact pr_337) (by decide +kernel) (by decide +kernel) (by decide +kernel) (by decide +kernel)).1
theorem pr_3969899:Pr 3969899:=(pr_lucas (N:=3969899) 2 [2,19,104471] (fun q hq=>by simp only[List.mem_cons,List.not_mem_nil,or_false]at hq;rcases hq with rfl | rfl | rfl <;> first | exact pr_2 | exact pr_19 | exact pr_104471) (by decide +kernel) (by decide +kernel) (by decide +kernel) (by decide +kernel)).1
theorem pr_1002328039319:Pr 1002328039319:=(pr_lucas (N:=1002328039319) 19 [2,126241,3969899] (fun q hq=>by simp only[List.mem_cons,List.not_mem_nil,or_false]at hq;rcases hq with rfl | rfl | rfl <;> first | exact pr_2 | exact pr_126241 | exact pr_3969899) (by decide +kernel) (by decide +kernel) (by decide +kernel) (by decide +kernel)).1
theorem pr_1297:Pr 1297:=pr_small 35 (by decide) (by decide) (by decide +kernel)
theorem pr_16879:Pr 16879:=pr_small 128 (by decide) (by decide) (by decide +kernel)
theorem pr_11:Pr 11:=pr_small 2 (by decide) (by decide) (by decide +kernel)
theorem pr_3023:Pr 3023:=pr_small 53 (by decide) (by decide) (by decide +kernel)
theorem pr_41:Pr 41:=pr_small 5 (by decide) (by decide) (by decide +kernel)
theorem pr_155317:Pr 155317:=(pr_lucas (N:=155317) 5 [2,2,3,7,43,43] (fun q hq=>by simp only[List.mem_cons,List.not_mem_nil,or_false]at hq;rcases hq with rfl | rfl | rfl | rfl | rfl | rfl <;> first | exact pr_2 | exact pr_3 | exact pr_7 | exact pr_43) (by decide +kernel) (by decide +kernel) (by decide +kernel) (by decide +kernel)).1
theorem pr_191039911:Pr 191039911:=(pr_lucas (N:=191039911) 3 [2,3,5,41,155317] (fun q hq=>by simp only[List.mem_cons,List.not_mem_nil,or_false]at hq;rcases hq with rfl | rfl | rfl | rfl | rfl <;> first | exact pr_2 | exact pr_3 | exact pr_5 | exact pr_41 | exact pr_155317) (by decide +kernel) (by decide +kernel) (by decide +kernel) (by decide +kernel)).1
theorem pr_208150935158385979:Pr 208150935158385979:=(pr_lucas (N:=208150935158385979) 2 [2,3,11,43,127,3023,191039911] (fun q hq=>by simp only[List.mem_cons,List.not_mem_nil,or_false]at hq;rcases hq with rfl | rfl | rfl | rfl | rfl | rfl | rfl <;> first | exact pr_2 | exact pr_3 | exact pr_11 | exact pr_43 | exact pr_127 | exact pr_3023 | exact pr_191039911) (by decide +kernel) (by decide +kernel) (by decide +kernel) (by decide +kernel)).1
theorem pr_2624747550333869278416773953:Pr 2624747550333869278416773953:=(pr_lucas (N:=2624747550333869278416773953) 7 [2,2,2,2,2,2,3,3,1297,16879,208150935158385979] (fun q hq=>by simp only[List.mem_cons,List.not_mem_nil,or_false]at hq;rcases hq with rfl | rfl | rfl | rfl | rfl | rfl | rfl | rfl | rfl | rfl | rfl <;> first | exact pr_2 | exact pr_3 | exact pr_1297 | exact pr_16879 | exact pr_208150935158385979) (by decide +kernel) (by decide +kernel) (by decide +kernel) (by decide +kernel)).1
def P2:Nat:=115792089210356248762697446949407573529996955224135760342422259061068512044369
theorem both_P2:Pr P2/\∀ x,x%P2≠0->x^(P2-1)%P2=1:=pr_lucas (N:=P2) 7 [2,2,2,2,3,71,131,373,3407,17449,38189,187019741,622491383,1002328039319,2624747550333869278416773953] (fun q hq=>by simp only[List.mem_cons,List.not_mem_nil,or_false]at hq;rcases hq with rfl | rfl | rfl | rfl | rfl | rfl | rfl | rfl | rfl | rfl | rfl | rfl | rfl | rfl | rfl <;> first | exact pr_2 | exact pr_3 | exact pr_71 | exact pr_131 | exact pr_373 | exact pr_3407 | exact pr_17449 | exact pr_38189 | exact pr_187019741 | exact pr_622491383 | exact pr_1002328039319 | exact pr_2624747550333869278416773953) (by decide +kernel) (by decide +kernel) (by decide +kernel) (by decide +kernel)
end Go.Proofs.YtbkgghhngeibhaaGreatDoor
