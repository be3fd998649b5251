/-
  The reference's Fits of layer 10: whether the polynomial through the first points passes through all. Conditions: the modulus is a number above 255 of four words, the points are correct, there are as many values below the modulus; at most 90.
-/
import Derived.Test.YtggebccgiigboaaDoorDegBase
import Derived.Test.YtggebccgiigboaaDoorLagRefs
import Derived.Test.YtggebccgiigboaaDoorLagProg
import Derived.Test.YtggebccgiigboaaDoorPolRefer
import Derived.Test.YtggebccgiigboaaDoorInvAll
namespace Go.Proofs.YtggebccgiigboaaDoor
open Go.RowKit
attribute [local go_sem ↓] Go.wp_at_zero Go.wp_at_succ
theorem fit_no {p : Nat} {xs ys : List Nat} {K j : Nat} (hj : j < xs.length) (h : pv (itpL p (xs.take K) (ys.take K)) (xs.getD j 0) % p ≠ ys.getD j 0) : fitV p xs ys K = false := by
 rw [Bool.eq_false_iff]
 intro h2
 unfold fitV at h2
 rw [List.all_eq_true] at h2
 exact h (by simpa using h2 j (List.mem_range.2 hj))
theorem fit_yes {p : Nat} {xs ys : List Nat} {K : Nat} (h : ∀ j,j < xs.length -> pv (itpL p (xs.take K) (ys.take K)) (xs.getD j 0) % p = ys.getD j 0) : fitV p xs ys K = true := by
 unfold fitV
 rw [List.all_eq_true]
 intro j hj
 rw [h j (List.mem_range.1 hj)]
 exact beq_self_eq_true _
theorem ptV_take (xs : List Int) (m : Nat) : ptV (xs.take m) = (ptV xs).take m := List.map_take
theorem take_min {α : Type} (l : List α) (K n : Nat) (h : l.length = n) : l.take (min K n) = l.take K := by
 by_cases hk : K <= n
 ·rw [Nat.min_eq_left hk]
 ·rw [Nat.min_eq_right (by omega),List.take_of_length_le (by omega),List.take_of_length_le (by omega)]
set_option maxRecDepth 100000 in
set_option maxHeartbeats 4000000 in
theorem reffits_any {p : Nat} (hp : p < R256) (hbig : 256 <= p) (xs : List Int) (hc : chkV xs = 0) (n : Nat) (hn : n = xs.length) (hl : n <= 90) (ys : List Nat) (hy : ∀ y ∈ ys,y < p) (hyl : n = ys.length) (k0 : Int) (a2 a : Option Addr) (cap2 cap : Nat) (hc2 : n <= cap2) (hc1 : n <= cap) (w : World) (hV : Iv w (.slice a2 n cap2) xs) (hU : Ls w (.slice a n cap) ys) :
  Calls Tryd.prog 14 #[V p,.slice a2 n cap2,.slice a n cap,.int .i64 k0] w fun e w' => e = .returned (.bool (fitV p (ptV xs) ys k0.toNat)) /\ Off (fun _ => False) w w' := by
 obtain ⟨hr,hnd⟩ := chkV_zero hc
 have hpl : (ptV xs).length = n := by rw [ptV_length]; exact hn.symm
 obtain ⟨m,hm⟩ : ∃ m,m = min k0.toNat n := ⟨_,rfl⟩
 have hmn : m <= n := by omega
 have hmm : max (min k0 (n : Int)) 0 = (m : Int) := by omega
 have htx : (ptV xs).take m = (ptV xs).take k0.toNat := by rw [hm]; exact take_min _ _ _ hpl
 have hty : ys.take m = ys.take k0.toNat := by rw [hm]; exact take_min _ _ _ hyl.symm
 obtain ⟨cs,hcs⟩ : ∃ l,l = itpL p ((ptV xs).take k0.toNat) (ys.take k0.toNat) := ⟨_,rfl⟩
 have hcsp : ∀ v ∈ cs,v < p := by rw [hcs]; exact itpF_lt (by omega) _ _ _
 have hs2 := slice_to_int a2 n cap2 m (by omega)
 have hs1 := slice_to_vec a n cap m (by omega)
 have FI0 := Lib.hid (show ∀ W v u,Iv W v (xs.take m) -> Ls W u (ys.take m) -> Calls Tryd.prog 34 #[V p,v,u] W fun e w' => ∃ z,e = .returned z /\ Ls w' z cs /\ Off (fun _ => False) W w' from fun W v u h h2 => by
  have g := refitp_any hp hbig (xs.take m) (fun x hx => hr x (List.mem_of_mem_take hx)) (by rw [List.length_take]; omega) (ys.take m) (fun y hx => hy y (List.mem_of_mem_take hx)) (by rw [List.length_take,List.length_take]; omega) v u W h h2
  rw [ptV_take,htx,hty,<- hcs] at g; exact g)
 have FE0 := Lib.hid (show ∀ q,q < 256 -> ∀ W v,Ls W v cs -> Calls Tryd.prog 25 #[V p,v,V q] W fun e w' => e = .returned (V (pv cs q % p)) /\ Off (fun _ => False) W w' from fun q hq W v h => refeval_any hp (by omega) cs hcsp q (by omega) v W h)
 have FP0 := Lib.hid (show ∀ q : Nat,q < 256 -> ∀ W,Calls Tryd.prog 26 #[.int .i64 (q : Int)] W fun e w' => e = .returned (V q) /\ Off (fun _ => False) W w' from fun q hq W => point_any q hq W)
 have FM0 := Lib.hid (show ∀ y,y < p -> ∀ W,Calls Tryd.prog 27 #[V p,V y] W fun e w' => e = .returned (V y) /\ Off (fun _ => False) W w' from fun y hy W => by
  have g := mod_mod p y hp (by omega) (by omega) W
  rw [Nat.mod_eq_of_lt hy] at g; exact g)
 have hyn : fitV p (ptV xs) ys k0.toNat = true ↔ ∀ j,j < n -> pv cs ((ptV xs).getD j 0) % p = ys.getD j 0 := by
  rw [hcs]
  constructor
  ·intro h j hj
   refine Classical.byContradiction (fun hne => ?_)
   rw [fit_no (by omega) hne] at h
   cases h
  ·intro h
   exact fit_yes (fun j hj => h j (by omega))
 have HYn := Lib.hid hyn
 clear hyn
 have HPt := Lib.hid (show ∀ W,Iv W (.slice a2 n cap2) xs -> ∀ k,k < n -> ∃ b off q,a2 = some ⟨b,off,none⟩ /\ W.cell? ⟨b,off + k,none⟩ = some (.int .i64 ((q : Nat) : Int)) /\ q < 256 /\ (ptV xs).getD k 0 = q from fun W h k hk => ints_at h hr hk)
 have HYp := Lib.hid (show ∀ k y,ys[k]? = some y -> y < p from fun k y h => hy y (List.mem_of_getElem? h))
 have HIv := Lib.hid hV
 have HLs := Lib.hid hU
 have HMn := Lib.hid hmn
 have HMm := Lib.hid hmm
 have HYl := Lib.hid hyl
 have hpR := hp
 have hEv : ∀ q,pv cs q % p < R256 := fun q => Nat.lt_trans (Nat.mod_lt _ (by omega)) hp
 have HEv := Lib.hid hEv
 have HpR := Lib.hid hpR
 clear hr hnd hpl hm hmn hmm htx hty hcs hcsp hp hbig hc hn hy hyl hV hU hEv hpR
 go_enter Tryd.func14,Tryd.ntmps14
 go_upto_region 2 with fail
 rw [HMm.out]
 obtain ⟨W0,hW0⟩ : ∃ W0,W0 = w.alloc (.cells #[.int .u64 (wd p 0 : Int),.int .u64 (wd p 1 : Int),.int .u64 (wd p 2 : Int),.int .u64 (wd p 3 : Int)] 28) := ⟨_,rfl⟩
 rw [<- hW0]
 have hOw : Off (fun _ => False) w W0 := by rw [hW0]; exact (Off.refl _ w).alloc _
 have g_P : W0.heap[w.heap.size]? = some (.cells #[.int .u64 (wd p 0 : Int),.int .u64 (wd p 1 : Int),.int .u64 (wd p 2 : Int),.int .u64 (wd p 3 : Int)] 28 (0,0)) := by rw [hW0]; exact heap_new' rfl _
 obtain ⟨pb,hpb⟩ : ∃ pb,pb = w.heap.size := ⟨_,rfl⟩
 rw [<- hpb] at g_P ⊢
 clear hW0 hpb
 have HK : Hid (∀ W',Off (fun _ => False) W0 W' -> (W'.cell? ⟨pb,0,none⟩ = some (.int .u64 (wd p 0 : Int)) /\ W'.cell? ⟨pb,1,none⟩ = some (.int .u64 (wd p 1 : Int)) /\ W'.cell? ⟨pb,2,none⟩ = some (.int .u64 (wd p 2 : Int)) /\ W'.cell? ⟨pb,3,none⟩ = some (.int .u64 (wd p 3 : Int))) /\ Off (fun _ => False) W0 W') := Lib.hid (fun W' h => ⟨cells4 (h.heap g_P (fun c => c)),h⟩)
 have FI := Lib.hid (show ∀ W,Off (fun _ => False) W0 W -> _ from fun W h => FI0.out W _ _ ((HIv.out.off (hOw.trans h (fun _ _ c => c))).take m HMn.out) ((HLs.out.off (hOw.trans h (fun _ _ c => c))).take m HMn.out))
 have HOw := Lib.hid hOw
 have HP := Lib.hid g_P
 clear hOw g_P
 refine wp_region_inv (fun a0 l a' w' => ∃ (u17 : Value) (u18 : Value) (u19 : Value) (u20 : Value) (u21 : Value) (u22 : Value) (u23 : Value) (u24 : Value) (u10 : Value),a' = (Act.put (Act.put (Act.put (Act.put (Act.put (Act.put (Act.put (Act.put (Act.put a0 (some 17) u17) (some 18) u18) (some 19) u19) (some 20) u20) (some 21) u21) (some 22) u22) (some 23) u23) (some 24) u24) (some 10) u10) /\ Slot l 0 u17 (V p) /\ Slot l 1 u18 (.slice a2 n cap2) /\ Slot l 2 u19 (.int .i64 (m : Int)) /\ Slot l 3 u20 (.slice a2 m cap2) /\ Slot l 4 u21 (.slice a n cap) /\ Slot l 5 u22 (.int .i64 (m : Int)) /\ Slot l 6 u23 (.slice a m cap) /\ Lk l 7 u24 w' (cs) /\ Lk l 8 u10 w' (cs) /\ Off (fun _ => False) W0 w') (by kernel_rfl) (by kernel_rfl) ?_ ⟨?_,?_,?_,?_,?_,?_,?_,?_,?_,trivial⟩ ?_
 ·refine ⟨?z17,?z18,?z19,?z20,?z21,?z22,?z23,?z24,?z10,?fr,Slot.start _ _ _,Slot.start _ _ _,Slot.start _ _ _,Slot.start _ _ _,Slot.start _ _ _,Slot.start _ _ _,Slot.start _ _ _,Lk.start _ _ _ _,Lk.start _ _ _ _,(Off.refl _ W0).drew⟩
  case fr => first | (simp only [Act.put,List.setIfInBounds_toArray,List.set_cons_zero,List.set_cons_succ]; rfl) | simp only [Act.put,List.setIfInBounds_toArray,List.set_cons_zero,List.set_cons_succ]
 ·intro l a wr hI hl hd K' hK
  obtain ⟨u17,u18,u19,u20,u21,u22,u23,u24,u10,ha,s0,s1,s2,s3,s4,s5,s6,M7,M8,hO⟩ := hI
  simp only [Act.put,List.setIfInBounds_toArray,List.set_cons_zero,List.set_cons_succ] at ha
  subst ha
  have hc := HK.out wr hO
  have p0 := hc.1.1
  have p1 := hc.1.2.1
  have p2 := hc.1.2.2.1
  have p3 := hc.1.2.2.2
  clear hc
  go_simp
  refine hK.out _ _ ⟨_,_,_,_,_,_,_,_,_,?_,Slot.new _ _ _,s1.keep rfl,s2.keep rfl,s3.keep rfl,s4.keep rfl,s5.keep rfl,s6.keep rfl,M7.keep (Off.refl _ wr) rfl,M8.keep (Off.refl _ wr) rfl,hO⟩
  simp only [Act.put,List.setIfInBounds_toArray,List.set_cons_zero,List.set_cons_succ]
 ·intro l a wr hI hl hd K' hK
  obtain ⟨u17,u18,u19,u20,u21,u22,u23,u24,u10,ha,s0,s1,s2,s3,s4,s5,s6,M7,M8,hO⟩ := hI
  simp only [Act.put,List.setIfInBounds_toArray,List.set_cons_zero,List.set_cons_succ] at ha
  subst ha
  go_simp
  refine hK.out _ _ ⟨_,_,_,_,_,_,_,_,_,?_,s0.keep rfl,Slot.new _ _ _,s2.keep rfl,s3.keep rfl,s4.keep rfl,s5.keep rfl,s6.keep rfl,M7.keep (Off.refl _ wr) rfl,M8.keep (Off.refl _ wr) rfl,hO⟩
  simp only [Act.put,List.setIfInBounds_toArray,List.set_cons_zero,List.set_cons_succ]
 ·intro l a wr hI hl hd K' hK
  obtain ⟨u17,u18,u19,u20,u21,u22,u23,u24,u10,ha,s0,s1,s2,s3,s4,s5,s6,M7,M8,hO⟩ := hI
  simp only [Act.put,List.setIfInBounds_toArray,List.set_cons_zero,List.set_cons_succ] at ha
  subst ha
  go_simp
  refine hK.out _ _ ⟨_,_,_,_,_,_,_,_,_,?_,s0.keep rfl,s1.keep rfl,Slot.new _ _ _,s3.keep rfl,s4.keep rfl,s5.keep rfl,s6.keep rfl,M7.keep (Off.refl _ wr) rfl,M8.keep (Off.refl _ wr) rfl,hO⟩
  simp only [Act.put,List.setIfInBounds_toArray,List.set_cons_zero,List.set_cons_succ]
 ·intro l a wr hI hl hd K' hK
  obtain ⟨u17,u18,u19,u20,u21,u22,u23,u24,u10,ha,s0,s1,s2,s3,s4,s5,s6,M7,M8,hO⟩ := hI
  simp only [Act.put,List.setIfInBounds_toArray,List.set_cons_zero,List.set_cons_succ] at ha
  have q1 := s1 (hd 1 (by decide))
  have q2 := s2 (hd 2 (by decide))
  subst ha q1 q2
  go_simp
  refine hK.out _ _ ⟨_,_,_,_,_,_,_,_,_,?_,s0.keep rfl,s1.keep rfl,s2.keep rfl,Slot.new _ _ _,s4.keep rfl,s5.keep rfl,s6.keep rfl,M7.keep (Off.refl _ wr) rfl,M8.keep (Off.refl _ wr) rfl,hO⟩
  simp only [Act.put,List.setIfInBounds_toArray,List.set_cons_zero,List.set_cons_succ]
 ·intro l a wr hI hl hd K' hK
  obtain ⟨u17,u18,u19,u20,u21,u22,u23,u24,u10,ha,s0,s1,s2,s3,s4,s5,s6,M7,M8,hO⟩ := hI
  simp only [Act.put,List.setIfInBounds_toArray,List.set_cons_zero,List.set_cons_succ] at ha
  subst ha
  go_simp
  refine hK.out _ _ ⟨_,_,_,_,_,_,_,_,_,?_,s0.keep rfl,s1.keep rfl,s2.keep rfl,s3.keep rfl,Slot.new _ _ _,s5.keep rfl,s6.keep rfl,M7.keep (Off.refl _ wr) rfl,M8.keep (Off.refl _ wr) rfl,hO⟩
  simp only [Act.put,List.setIfInBounds_toArray,List.set_cons_zero,List.set_cons_succ]
 ·intro l a wr hI hl hd K' hK
  obtain ⟨u17,u18,u19,u20,u21,u22,u23,u24,u10,ha,s0,s1,s2,s3,s4,s5,s6,M7,M8,hO⟩ := hI
  simp only [Act.put,List.setIfInBounds_toArray,List.set_cons_zero,List.set_cons_succ] at ha
  subst ha
  go_simp
  refine hK.out _ _ ⟨_,_,_,_,_,_,_,_,_,?_,s0.keep rfl,s1.keep rfl,s2.keep rfl,s3.keep rfl,s4.keep rfl,Slot.new _ _ _,s6.keep rfl,M7.keep (Off.refl _ wr) rfl,M8.keep (Off.refl _ wr) rfl,hO⟩
  simp only [Act.put,List.setIfInBounds_toArray,List.set_cons_zero,List.set_cons_succ]
 ·intro l a wr hI hl hd K' hK
  obtain ⟨u17,u18,u19,u20,u21,u22,u23,u24,u10,ha,s0,s1,s2,s3,s4,s5,s6,M7,M8,hO⟩ := hI
  simp only [Act.put,List.setIfInBounds_toArray,List.set_cons_zero,List.set_cons_succ] at ha
  have q4 := s4 (hd 4 (by decide))
  have q5 := s5 (hd 5 (by decide))
  subst ha q4 q5
  go_simp
  refine hK.out _ _ ⟨_,_,_,_,_,_,_,_,_,?_,s0.keep rfl,s1.keep rfl,s2.keep rfl,s3.keep rfl,s4.keep rfl,s5.keep rfl,Slot.new _ _ _,M7.keep (Off.refl _ wr) rfl,M8.keep (Off.refl _ wr) rfl,hO⟩
  simp only [Act.put,List.setIfInBounds_toArray,List.set_cons_zero,List.set_cons_succ]
 ·intro l a wr hI hl hd K' hK
  obtain ⟨u17,u18,u19,u20,u21,u22,u23,u24,u10,ha,s0,s1,s2,s3,s4,s5,s6,M7,M8,hO⟩ := hI
  simp only [Act.put,List.setIfInBounds_toArray,List.set_cons_zero,List.set_cons_succ] at ha
  have q0 := s0 (hd 0 (by decide))
  have q3 := s3 (hd 3 (by decide))
  have q6 := s6 (hd 6 (by decide))
  subst ha q0 q3 q6
  go_simp
  refine (FI.out wr hO).mono ?_
  rintro e w1 ⟨uv,rfl,hm,hOW⟩
  have hO1 := hO.trans hOW (fun _ _ c => c.elim)
  go_wp2_with fail
  refine hK.out _ _ ⟨_,_,_,_,_,_,_,_,_,?_,s0.keep rfl,s1.keep rfl,s2.keep rfl,s3.keep rfl,s4.keep rfl,s5.keep rfl,s6.keep rfl,Lk.new hm,M8.keep hOW rfl,hO1⟩
  simp only [Act.put,List.setIfInBounds_toArray,List.set_cons_zero,List.set_cons_succ]
 ·intro l a wr hI hl hd K' hK
  obtain ⟨u17,u18,u19,u20,u21,u22,u23,u24,u10,ha,s0,s1,s2,s3,s4,s5,s6,M7,M8,hO⟩ := hI
  simp only [Act.put,List.setIfInBounds_toArray,List.set_cons_zero,List.set_cons_succ] at ha
  have m7 := M7 (hd 7 (by decide))
  subst ha
  go_simp
  refine hK.out _ _ ⟨_,_,_,_,_,_,_,_,_,?_,s0.keep rfl,s1.keep rfl,s2.keep rfl,s3.keep rfl,s4.keep rfl,s5.keep rfl,s6.keep rfl,M7.keep (Off.refl _ wr) rfl,Lk.new (m7),hO⟩
  simp only [Act.put,List.setIfInBounds_toArray,List.set_cons_zero,List.set_cons_succ]
 ·intro l a wc hI hd
  obtain ⟨u17,u18,u19,u20,u21,u22,u23,u24,u10,ha,s0,s1,s2,s3,s4,s5,s6,M7,M8,hO⟩ := hI
  simp only [Act.put,List.setIfInBounds_toArray,List.set_cons_zero,List.set_cons_succ] at ha
  have q0 := s0 (hd 0 (by decide))
  have q1 := s1 (hd 1 (by decide))
  have q2 := s2 (hd 2 (by decide))
  have q3 := s3 (hd 3 (by decide))
  have q4 := s4 (hd 4 (by decide))
  have q5 := s5 (hd 5 (by decide))
  have q6 := s6 (hd 6 (by decide))
  have m24 := M7 (hd 7 (by decide))
  have m10 := M8 (hd 8 (by decide))
  subst ha q0 q1 q2 q3 q4 q5 q6
  clear hd s0 s1 s2 s3 s4 s5 s6 M7 M8
  obtain ⟨zc,hzc⟩ : ∃ z,z = u10 := ⟨_,rfl⟩
  rw [<- hzc] at m10
  rw [<- hzc]
  have HZ := Lib.hid m10
  have HO1 := Lib.hid hO
  clear hzc m24 m10 hO HK
  go_wp2
  go_loopw [11] (fun i wr => ∃ k : Nat,k <= n /\ i = .int .i64 (k : Int) /\ (∀ j,j < k -> pv cs ((ptV xs).getD j 0) % p = ys.getD j 0) /\ Off (fun _ => False) W0 wr /\ Ls wr zc cs) (fun i _ => n - (intOf i).toNat)
  case atStart => exact ⟨0,Nat.zero_le _,rfl,fun j hj => by omega,HO1.out,HZ.out⟩
  case round =>
   obtain ⟨k,hk,rfl,hgood,hO,hz⟩ := hrel
   have HGo := Lib.hid hgood
   clear hgood
   by_cases hlt : k < n
   ·obtain ⟨y,hyk⟩ : ∃ y,ys[k]? = some y := ⟨_,List.getElem?_eq_getElem (by have := HYl.out; omega)⟩
    have hyp := HYp.out k y hyk
    obtain ⟨b,off,q,rfl,d0,hq,hqk⟩ := HPt.out wr (HIv.out.off (HOw.out.trans hO (fun _ _ c => c))) k hlt
    obtain ⟨b2,off2,rfl,_,c0,c1,c2,c3⟩ := LsAt.get (HLs.out.off (HOw.out.trans hO (fun _ _ c => c))) hyk
    obtain ⟨e,he⟩ : ∃ e,e = pv cs q % p := ⟨_,rfl⟩
    have HQk := Lib.hid hqk
    have HYk := Lib.hid (show ys.getD k 0 = y by rw [List.getD_eq_getElem?_getD,hyk]; rfl)
    have FP := Lib.hid (show ∀ W,Calls Tryd.prog 26 #[.int .i64 (q : Int)] W fun e w' => e = .returned (V q) /\ Off (fun _ => False) W w' from fun W => FP0.out q hq W)
    have FM := Lib.hid (show ∀ W,Calls Tryd.prog 27 #[V p,V y] W fun e w' => e = .returned (V y) /\ Off (fun _ => False) W w' from fun W => FM0.out y hyp W)
    obtain ⟨wr0,hwr⟩ : ∃ u,u = wr := ⟨_,rfl⟩
    rw [<- hwr] at hO hz d0 c0 c1 c2 c3 ⊢
    have FE := Lib.hid (show ∀ W,Off (fun _ => False) wr0 W -> Calls Tryd.prog 25 #[V p,zc,V q] W fun x w' => x = .returned (V e) /\ Off (fun _ => False) W w' from fun W h => by rw [he]; exact FE0.out q hq W zc (hz.off h))
    have g_P := hO.heap HP.out (fun c => c)
    have HKr : Hid (∀ W',Off (fun _ => False) wr0 W' -> (W'.cell? ⟨pb,0,none⟩ = some (.int .u64 (wd p 0 : Int)) /\ W'.cell? ⟨pb,1,none⟩ = some (.int .u64 (wd p 1 : Int)) /\ W'.cell? ⟨pb,2,none⟩ = some (.int .u64 (wd p 2 : Int)) /\ W'.cell? ⟨pb,3,none⟩ = some (.int .u64 (wd p 3 : Int))) /\ (W'.cell? ⟨b2,off2 + k * 4,none⟩ = some (.int .u64 (wd y 0 : Int)) /\ W'.cell? ⟨b2,off2 + k * 4 + 1,none⟩ = some (.int .u64 (wd y 1 : Int)) /\ W'.cell? ⟨b2,off2 + k * 4 + 2,none⟩ = some (.int .u64 (wd y 2 : Int)) /\ W'.cell? ⟨b2,off2 + k * 4 + 3,none⟩ = some (.int .u64 (wd y 3 : Int))) /\ W'.cell? ⟨b,off + k,none⟩ = some (.int .i64 (q : Int)) /\ Off (fun _ => False) wr0 W') := Lib.hid (fun W' h => ⟨cells4 (h.heap g_P (fun c => c)),⟨h.cell c0 (fun c => c),h.cell c1 (fun c => c),h.cell c2 (fun c => c),h.cell c3 (fun c => c)⟩,h.cell d0 (fun c => c),h⟩)
    have HZr := Lib.hid hz
    have HOr := Lib.hid (Off.refl (fun _ => False) wr0)
    have HOg := Lib.hid hO
    have heR : e < R256 := by rw [he]; exact HEv.out q
    have hyR : y < R256 := Nat.lt_trans hyp HpR.out
    have HE := Lib.hid he
    have hkn : (k : Int) < (n : Int) := by omega
    have hwk : IntKind.i64.wrap ((k : Int) + 1) = (k : Int) + 1 := by rw [IntKind.wrap_i64]; omega
    clear hwr hyk hyp d0 hq hqk c0 c1 c2 c3 he hO hz g_P
    by_cases hey : e = y
    ·have hgo : ∀ j,j < k + 1 -> pv cs ((ptV xs).getD j 0) % p = ys.getD j 0 := fun j hj => by
      by_cases hjk : j < k
      ·exact HGo.out j hjk
      ·obtain rfl : j = k := by omega
       rw [HQk.out,HYk.out,<- HE.out,hey]
     have HGo2 := Lib.hid hgo
     have e2 := fun W : World => (show (Op.equalIn 10000 28 (V e) (V y)).run Tryd.prog W = .ok true W by rw [hey]; exact equalIn_same y W)
     clear hgo heR hyR
     have HEy := Lib.hid hey
     clear hey
     go_upto_region 6 with fail
     refine wp_region_inv (fun a0 l a' w' => ∃ (u31 : Value) (u32 : Value) (u33 : Value) (u34 : Value) (u35 : Value) (u36 : Value) (u37 : Value) (u38 : Value) (u39 : Value) (u40 : Value) (u41 : Value) (u42 : Value) (u43 : Value) (u44 : Value) (u45 : Value),a' = (Act.put (Act.put (Act.put (Act.put (Act.put (Act.put (Act.put (Act.put (Act.put (Act.put (Act.put (Act.put (Act.put (Act.put (Act.put a0 (some 31) u31) (some 32) u32) (some 33) u33) (some 34) u34) (some 35) u35) (some 36) u36) (some 37) u37) (some 38) u38) (some 39) u39) (some 40) u40) (some 41) u41) (some 42) u42) (some 43) u43) (some 44) u44) (some 45) u45) /\ Slot l 0 u31 (V p) /\ Slot l 1 u32 (zc) /\ Slot l 2 u33 (.slice (some ⟨b,off,none⟩) n cap2) /\ Slot l 3 u34 (.int .i64 (k : Int)) /\ Slot l 4 u35 (.pointer (some ⟨b,off + k,none⟩)) /\ Slot l 5 u36 (.int .i64 (q : Int)) /\ Slot l 6 u37 (V q) /\ Slot l 7 u38 (V e) /\ Slot l 8 u39 (V p) /\ Slot l 9 u40 (.slice (some ⟨b2,off2,none⟩) n cap) /\ Slot l 10 u41 (.int .i64 (k : Int)) /\ Slot l 11 u42 (.pointer (some ⟨b2,off2 + k * 4,none⟩)) /\ Slot l 12 u43 (V y) /\ Slot l 13 u44 (V y) /\ Slot l 14 u45 (.bool false) /\ Off (fun _ => False) wr0 w') (by kernel_rfl) (by kernel_rfl) ?_ ⟨?_,?_,?_,?_,?_,?_,?_,?_,?_,?_,?_,?_,?_,?_,?_,trivial⟩ ?_
     ·refine ⟨?z31,?z32,?z33,?z34,?z35,?z36,?z37,?z38,?z39,?z40,?z41,?z42,?z43,?z44,?z45,?fr,Slot.start _ _ _,Slot.start _ _ _,Slot.start _ _ _,Slot.start _ _ _,Slot.start _ _ _,Slot.start _ _ _,Slot.start _ _ _,Slot.start _ _ _,Slot.start _ _ _,Slot.start _ _ _,Slot.start _ _ _,Slot.start _ _ _,Slot.start _ _ _,Slot.start _ _ _,Slot.start _ _ _,HOr.out.drew⟩
      case fr => first | (simp only [Act.put,List.setIfInBounds_toArray,List.set_cons_zero,List.set_cons_succ]; rfl) | simp only [Act.put,List.setIfInBounds_toArray,List.set_cons_zero,List.set_cons_succ]
     ·intro l a wr hI hl hd K' hK
      obtain ⟨u31,u32,u33,u34,u35,u36,u37,u38,u39,u40,u41,u42,u43,u44,u45,ha,s0,s1,s2,s3,s4,s5,s6,s7,s8,s9,s10,s11,s12,s13,s14,hO⟩ := hI
      simp only [Act.put,List.setIfInBounds_toArray,List.set_cons_zero,List.set_cons_succ] at ha
      subst ha
      have hc := HKr.out wr hO
      have p0 := hc.1.1
      have p1 := hc.1.2.1
      have p2 := hc.1.2.2.1
      have p3 := hc.1.2.2.2
      clear hc
      go_simp
      refine hK.out _ _ ⟨_,_,_,_,_,_,_,_,_,_,_,_,_,_,_,?_,Slot.new _ _ _,s1.keep rfl,s2.keep rfl,s3.keep rfl,s4.keep rfl,s5.keep rfl,s6.keep rfl,s7.keep rfl,s8.keep rfl,s9.keep rfl,s10.keep rfl,s11.keep rfl,s12.keep rfl,s13.keep rfl,s14.keep rfl,hO⟩
      simp only [Act.put,List.setIfInBounds_toArray,List.set_cons_zero,List.set_cons_succ]
     ·intro l a wr hI hl hd K' hK
      obtain ⟨u31,u32,u33,u34,u35,u36,u37,u38,u39,u40,u41,u42,u43,u44,u45,ha,s0,s1,s2,s3,s4,s5,s6,s7,s8,s9,s10,s11,s12,s13,s14,hO⟩ := hI
      simp only [Act.put,List.setIfInBounds_toArray,List.set_cons_zero,List.set_cons_succ] at ha
      subst ha
      go_simp
      refine hK.out _ _ ⟨_,_,_,_,_,_,_,_,_,_,_,_,_,_,_,?_,s0.keep rfl,Slot.new _ _ _,s2.keep rfl,s3.keep rfl,s4.keep rfl,s5.keep rfl,s6.keep rfl,s7.keep rfl,s8.keep rfl,s9.keep rfl,s10.keep rfl,s11.keep rfl,s12.keep rfl,s13.keep rfl,s14.keep rfl,hO⟩
      simp only [Act.put,List.setIfInBounds_toArray,List.set_cons_zero,List.set_cons_succ]
     ·intro l a wr hI hl hd K' hK
      obtain ⟨u31,u32,u33,u34,u35,u36,u37,u38,u39,u40,u41,u42,u43,u44,u45,ha,s0,s1,s2,s3,s4,s5,s6,s7,s8,s9,s10,s11,s12,s13,s14,hO⟩ := hI
      simp only [Act.put,List.setIfInBounds_toArray,List.set_cons_zero,List.set_cons_succ] at ha
      subst ha
      go_simp
      refine hK.out _ _ ⟨_,_,_,_,_,_,_,_,_,_,_,_,_,_,_,?_,s0.keep rfl,s1.keep rfl,Slot.new _ _ _,s3.keep rfl,s4.keep rfl,s5.keep rfl,s6.keep rfl,s7.keep rfl,s8.keep rfl,s9.keep rfl,s10.keep rfl,s11.keep rfl,s12.keep rfl,s13.keep rfl,s14.keep rfl,hO⟩
      simp only [Act.put,List.setIfInBounds_toArray,List.set_cons_zero,List.set_cons_succ]
     ·intro l a wr hI hl hd K' hK
      obtain ⟨u31,u32,u33,u34,u35,u36,u37,u38,u39,u40,u41,u42,u43,u44,u45,ha,s0,s1,s2,s3,s4,s5,s6,s7,s8,s9,s10,s11,s12,s13,s14,hO⟩ := hI
      simp only [Act.put,List.setIfInBounds_toArray,List.set_cons_zero,List.set_cons_succ] at ha
      subst ha
      go_simp
      refine hK.out _ _ ⟨_,_,_,_,_,_,_,_,_,_,_,_,_,_,_,?_,s0.keep rfl,s1.keep rfl,s2.keep rfl,Slot.new _ _ _,s4.keep rfl,s5.keep rfl,s6.keep rfl,s7.keep rfl,s8.keep rfl,s9.keep rfl,s10.keep rfl,s11.keep rfl,s12.keep rfl,s13.keep rfl,s14.keep rfl,hO⟩
      simp only [Act.put,List.setIfInBounds_toArray,List.set_cons_zero,List.set_cons_succ]
     ·intro l a wr hI hl hd K' hK
      obtain ⟨u31,u32,u33,u34,u35,u36,u37,u38,u39,u40,u41,u42,u43,u44,u45,ha,s0,s1,s2,s3,s4,s5,s6,s7,s8,s9,s10,s11,s12,s13,s14,hO⟩ := hI
      simp only [Act.put,List.setIfInBounds_toArray,List.set_cons_zero,List.set_cons_succ] at ha
      have q2 := s2 (hd 2 (by decide))
      have q3 := s3 (hd 3 (by decide))
      subst ha q2 q3
      go_simp
      refine hK.out _ _ ⟨_,_,_,_,_,_,_,_,_,_,_,_,_,_,_,?_,s0.keep rfl,s1.keep rfl,s2.keep rfl,s3.keep rfl,Slot.new _ _ _,s5.keep rfl,s6.keep rfl,s7.keep rfl,s8.keep rfl,s9.keep rfl,s10.keep rfl,s11.keep rfl,s12.keep rfl,s13.keep rfl,s14.keep rfl,hO⟩
      simp only [Act.put,List.setIfInBounds_toArray,List.set_cons_zero,List.set_cons_succ]
     ·intro l a wr hI hl hd K' hK
      obtain ⟨u31,u32,u33,u34,u35,u36,u37,u38,u39,u40,u41,u42,u43,u44,u45,ha,s0,s1,s2,s3,s4,s5,s6,s7,s8,s9,s10,s11,s12,s13,s14,hO⟩ := hI
      simp only [Act.put,List.setIfInBounds_toArray,List.set_cons_zero,List.set_cons_succ] at ha
      have q4 := s4 (hd 4 (by decide))
      subst ha q4
      have hc := HKr.out wr hO
      have p0 := hc.2.2.1
      clear hc
      go_simp
      refine hK.out _ _ ⟨_,_,_,_,_,_,_,_,_,_,_,_,_,_,_,?_,s0.keep rfl,s1.keep rfl,s2.keep rfl,s3.keep rfl,s4.keep rfl,Slot.new _ _ _,s6.keep rfl,s7.keep rfl,s8.keep rfl,s9.keep rfl,s10.keep rfl,s11.keep rfl,s12.keep rfl,s13.keep rfl,s14.keep rfl,hO⟩
      simp only [Act.put,List.setIfInBounds_toArray,List.set_cons_zero,List.set_cons_succ]
     ·intro l a wr hI hl hd K' hK
      obtain ⟨u31,u32,u33,u34,u35,u36,u37,u38,u39,u40,u41,u42,u43,u44,u45,ha,s0,s1,s2,s3,s4,s5,s6,s7,s8,s9,s10,s11,s12,s13,s14,hO⟩ := hI
      simp only [Act.put,List.setIfInBounds_toArray,List.set_cons_zero,List.set_cons_succ] at ha
      have q5 := s5 (hd 5 (by decide))
      subst ha q5
      go_simp
      refine (held_inv (FP.out wr) hO).mono ?_
      rintro e w1 ⟨rfl,hO1,hOW⟩
      go_wp2_with fail
      refine hK.out _ _ ⟨_,_,_,_,_,_,_,_,_,_,_,_,_,_,_,?_,s0.keep rfl,s1.keep rfl,s2.keep rfl,s3.keep rfl,s4.keep rfl,s5.keep rfl,Slot.new _ _ _,s7.keep rfl,s8.keep rfl,s9.keep rfl,s10.keep rfl,s11.keep rfl,s12.keep rfl,s13.keep rfl,s14.keep rfl,hO1⟩
      simp only [Act.put,List.setIfInBounds_toArray,List.set_cons_zero,List.set_cons_succ]
     ·intro l a wr hI hl hd K' hK
      obtain ⟨u31,u32,u33,u34,u35,u36,u37,u38,u39,u40,u41,u42,u43,u44,u45,ha,s0,s1,s2,s3,s4,s5,s6,s7,s8,s9,s10,s11,s12,s13,s14,hO⟩ := hI
      simp only [Act.put,List.setIfInBounds_toArray,List.set_cons_zero,List.set_cons_succ] at ha
      have q0 := s0 (hd 0 (by decide))
      have q1 := s1 (hd 1 (by decide))
      have q6 := s6 (hd 6 (by decide))
      subst ha q0 q1 q6
      go_simp
      refine (held_inv (FE.out wr hO) hO).mono ?_
      rintro e w1 ⟨rfl,hO1,hOW⟩
      go_wp2_with fail
      refine hK.out _ _ ⟨_,_,_,_,_,_,_,_,_,_,_,_,_,_,_,?_,s0.keep rfl,s1.keep rfl,s2.keep rfl,s3.keep rfl,s4.keep rfl,s5.keep rfl,s6.keep rfl,Slot.new _ _ _,s8.keep rfl,s9.keep rfl,s10.keep rfl,s11.keep rfl,s12.keep rfl,s13.keep rfl,s14.keep rfl,hO1⟩
      simp only [Act.put,List.setIfInBounds_toArray,List.set_cons_zero,List.set_cons_succ]
     ·intro l a wr hI hl hd K' hK
      obtain ⟨u31,u32,u33,u34,u35,u36,u37,u38,u39,u40,u41,u42,u43,u44,u45,ha,s0,s1,s2,s3,s4,s5,s6,s7,s8,s9,s10,s11,s12,s13,s14,hO⟩ := hI
      simp only [Act.put,List.setIfInBounds_toArray,List.set_cons_zero,List.set_cons_succ] at ha
      subst ha
      have hc := HKr.out wr hO
      have p0 := hc.1.1
      have p1 := hc.1.2.1
      have p2 := hc.1.2.2.1
      have p3 := hc.1.2.2.2
      clear hc
      go_simp
      refine hK.out _ _ ⟨_,_,_,_,_,_,_,_,_,_,_,_,_,_,_,?_,s0.keep rfl,s1.keep rfl,s2.keep rfl,s3.keep rfl,s4.keep rfl,s5.keep rfl,s6.keep rfl,s7.keep rfl,Slot.new _ _ _,s9.keep rfl,s10.keep rfl,s11.keep rfl,s12.keep rfl,s13.keep rfl,s14.keep rfl,hO⟩
      simp only [Act.put,List.setIfInBounds_toArray,List.set_cons_zero,List.set_cons_succ]
     ·intro l a wr hI hl hd K' hK
      obtain ⟨u31,u32,u33,u34,u35,u36,u37,u38,u39,u40,u41,u42,u43,u44,u45,ha,s0,s1,s2,s3,s4,s5,s6,s7,s8,s9,s10,s11,s12,s13,s14,hO⟩ := hI
      simp only [Act.put,List.setIfInBounds_toArray,List.set_cons_zero,List.set_cons_succ] at ha
      subst ha
      go_simp
      refine hK.out _ _ ⟨_,_,_,_,_,_,_,_,_,_,_,_,_,_,_,?_,s0.keep rfl,s1.keep rfl,s2.keep rfl,s3.keep rfl,s4.keep rfl,s5.keep rfl,s6.keep rfl,s7.keep rfl,s8.keep rfl,Slot.new _ _ _,s10.keep rfl,s11.keep rfl,s12.keep rfl,s13.keep rfl,s14.keep rfl,hO⟩
      simp only [Act.put,List.setIfInBounds_toArray,List.set_cons_zero,List.set_cons_succ]
     ·intro l a wr hI hl hd K' hK
      obtain ⟨u31,u32,u33,u34,u35,u36,u37,u38,u39,u40,u41,u42,u43,u44,u45,ha,s0,s1,s2,s3,s4,s5,s6,s7,s8,s9,s10,s11,s12,s13,s14,hO⟩ := hI
      simp only [Act.put,List.setIfInBounds_toArray,List.set_cons_zero,List.set_cons_succ] at ha
      subst ha
      go_simp
      refine hK.out _ _ ⟨_,_,_,_,_,_,_,_,_,_,_,_,_,_,_,?_,s0.keep rfl,s1.keep rfl,s2.keep rfl,s3.keep rfl,s4.keep rfl,s5.keep rfl,s6.keep rfl,s7.keep rfl,s8.keep rfl,s9.keep rfl,Slot.new _ _ _,s11.keep rfl,s12.keep rfl,s13.keep rfl,s14.keep rfl,hO⟩
      simp only [Act.put,List.setIfInBounds_toArray,List.set_cons_zero,List.set_cons_succ]
     ·intro l a wr hI hl hd K' hK
      obtain ⟨u31,u32,u33,u34,u35,u36,u37,u38,u39,u40,u41,u42,u43,u44,u45,ha,s0,s1,s2,s3,s4,s5,s6,s7,s8,s9,s10,s11,s12,s13,s14,hO⟩ := hI
      simp only [Act.put,List.setIfInBounds_toArray,List.set_cons_zero,List.set_cons_succ] at ha
      have q9 := s9 (hd 9 (by decide))
      have q10 := s10 (hd 10 (by decide))
      subst ha q9 q10
      go_simp
      refine hK.out _ _ ⟨_,_,_,_,_,_,_,_,_,_,_,_,_,_,_,?_,s0.keep rfl,s1.keep rfl,s2.keep rfl,s3.keep rfl,s4.keep rfl,s5.keep rfl,s6.keep rfl,s7.keep rfl,s8.keep rfl,s9.keep rfl,s10.keep rfl,Slot.new _ _ _,s12.keep rfl,s13.keep rfl,s14.keep rfl,hO⟩
      simp only [Act.put,List.setIfInBounds_toArray,List.set_cons_zero,List.set_cons_succ]
     ·intro l a wr hI hl hd K' hK
      obtain ⟨u31,u32,u33,u34,u35,u36,u37,u38,u39,u40,u41,u42,u43,u44,u45,ha,s0,s1,s2,s3,s4,s5,s6,s7,s8,s9,s10,s11,s12,s13,s14,hO⟩ := hI
      simp only [Act.put,List.setIfInBounds_toArray,List.set_cons_zero,List.set_cons_succ] at ha
      have q11 := s11 (hd 11 (by decide))
      subst ha q11
      have hc := HKr.out wr hO
      have p0 := hc.2.1.1
      have p1 := hc.2.1.2.1
      have p2 := hc.2.1.2.2.1
      have p3 := hc.2.1.2.2.2
      clear hc
      go_simp
      refine hK.out _ _ ⟨_,_,_,_,_,_,_,_,_,_,_,_,_,_,_,?_,s0.keep rfl,s1.keep rfl,s2.keep rfl,s3.keep rfl,s4.keep rfl,s5.keep rfl,s6.keep rfl,s7.keep rfl,s8.keep rfl,s9.keep rfl,s10.keep rfl,s11.keep rfl,Slot.new _ _ _,s13.keep rfl,s14.keep rfl,hO⟩
      simp only [Act.put,List.setIfInBounds_toArray,List.set_cons_zero,List.set_cons_succ]
     ·intro l a wr hI hl hd K' hK
      obtain ⟨u31,u32,u33,u34,u35,u36,u37,u38,u39,u40,u41,u42,u43,u44,u45,ha,s0,s1,s2,s3,s4,s5,s6,s7,s8,s9,s10,s11,s12,s13,s14,hO⟩ := hI
      simp only [Act.put,List.setIfInBounds_toArray,List.set_cons_zero,List.set_cons_succ] at ha
      have q8 := s8 (hd 8 (by decide))
      have q12 := s12 (hd 12 (by decide))
      subst ha q8 q12
      go_simp
      refine (held_inv (FM.out wr) hO).mono ?_
      rintro e w1 ⟨rfl,hO1,hOW⟩
      go_wp2_with fail
      refine hK.out _ _ ⟨_,_,_,_,_,_,_,_,_,_,_,_,_,_,_,?_,s0.keep rfl,s1.keep rfl,s2.keep rfl,s3.keep rfl,s4.keep rfl,s5.keep rfl,s6.keep rfl,s7.keep rfl,s8.keep rfl,s9.keep rfl,s10.keep rfl,s11.keep rfl,s12.keep rfl,Slot.new _ _ _,s14.keep rfl,hO1⟩
      simp only [Act.put,List.setIfInBounds_toArray,List.set_cons_zero,List.set_cons_succ]
     ·intro l a wr hI hl hd K' hK
      obtain ⟨u31,u32,u33,u34,u35,u36,u37,u38,u39,u40,u41,u42,u43,u44,u45,ha,s0,s1,s2,s3,s4,s5,s6,s7,s8,s9,s10,s11,s12,s13,s14,hO⟩ := hI
      simp only [Act.put,List.setIfInBounds_toArray,List.set_cons_zero,List.set_cons_succ] at ha
      have q7 := s7 (hd 7 (by decide))
      have q13 := s13 (hd 13 (by decide))
      subst ha q7 q13
      go_simp
      refine hK.out _ _ ⟨_,_,_,_,_,_,_,_,_,_,_,_,_,_,_,?_,s0.keep rfl,s1.keep rfl,s2.keep rfl,s3.keep rfl,s4.keep rfl,s5.keep rfl,s6.keep rfl,s7.keep rfl,s8.keep rfl,s9.keep rfl,s10.keep rfl,s11.keep rfl,s12.keep rfl,s13.keep rfl,Slot.new _ _ _,hO⟩
      simp only [Act.put,List.setIfInBounds_toArray,List.set_cons_zero,List.set_cons_succ]
     ·intro l a wc hI hd
      obtain ⟨u31,u32,u33,u34,u35,u36,u37,u38,u39,u40,u41,u42,u43,u44,u45,ha,s0,s1,s2,s3,s4,s5,s6,s7,s8,s9,s10,s11,s12,s13,s14,hO⟩ := hI
      simp only [Act.put,List.setIfInBounds_toArray,List.set_cons_zero,List.set_cons_succ] at ha
      have q0 := s0 (hd 0 (by decide))
      have q1 := s1 (hd 1 (by decide))
      have q2 := s2 (hd 2 (by decide))
      have q3 := s3 (hd 3 (by decide))
      have q4 := s4 (hd 4 (by decide))
      have q5 := s5 (hd 5 (by decide))
      have q6 := s6 (hd 6 (by decide))
      have q7 := s7 (hd 7 (by decide))
      have q8 := s8 (hd 8 (by decide))
      have q9 := s9 (hd 9 (by decide))
      have q10 := s10 (hd 10 (by decide))
      have q11 := s11 (hd 11 (by decide))
      have q12 := s12 (hd 12 (by decide))
      have q13 := s13 (hd 13 (by decide))
      have q14 := s14 (hd 14 (by decide))
      subst ha q0 q1 q2 q3 q4 q5 q6 q7 q8 q9 q10 q11 q12 q13 q14
      clear hd s0 s1 s2 s3 s4 s5 s6 s7 s8 s9 s10 s11 s12 s13 s14
      have HZ5 := Lib.hid (HZr.out.off hO)
      have HO5 := Lib.hid (HOg.out.trans hO (fun _ _ c => c))
      clear hO
      go_wp2
      go_roundw
      case rel => exact ⟨k + 1,by omega,by simp,HGo2.out,HO5.out,HZ5.out⟩
      case measure => simp [intOf] <;> omega
    ·have hfv : fitV p (ptV xs) ys k0.toNat = false := by
      rw [Bool.eq_false_iff]
      intro h
      have h2 := HYn.out.1 h k hlt
      rw [HQk.out,HYk.out,<- HE.out] at h2
      exact hey h2
     have HFv := Lib.hid hfv
     have e2 := fun W : World => (show (Op.equalIn 10000 28 (V e) (V y)).run Tryd.prog W = .ok false W by
      rw [equalIn_num heR hyR,show eqN e y = false by simp [eqN,hey]])
     have HEy := Lib.hid hey
     clear hfv heR hyR hey
     go_upto_region 6 with fail
     refine wp_region_inv (fun a0 l a' w' => ∃ (u31 : Value) (u32 : Value) (u33 : Value) (u34 : Value) (u35 : Value) (u36 : Value) (u37 : Value) (u38 : Value) (u39 : Value) (u40 : Value) (u41 : Value) (u42 : Value) (u43 : Value) (u44 : Value) (u45 : Value),a' = (Act.put (Act.put (Act.put (Act.put (Act.put (Act.put (Act.put (Act.put (Act.put (Act.put (Act.put (Act.put (Act.put (Act.put (Act.put a0 (some 31) u31) (some 32) u32) (some 33) u33) (some 34) u34) (some 35) u35) (some 36) u36) (some 37) u37) (some 38) u38) (some 39) u39) (some 40) u40) (some 41) u41) (some 42) u42) (some 43) u43) (some 44) u44) (some 45) u45) /\ Slot l 0 u31 (V p) /\ Slot l 1 u32 (zc) /\ Slot l 2 u33 (.slice (some ⟨b,off,none⟩) n cap2) /\ Slot l 3 u34 (.int .i64 (k : Int)) /\ Slot l 4 u35 (.pointer (some ⟨b,off + k,none⟩)) /\ Slot l 5 u36 (.int .i64 (q : Int)) /\ Slot l 6 u37 (V q) /\ Slot l 7 u38 (V e) /\ Slot l 8 u39 (V p) /\ Slot l 9 u40 (.slice (some ⟨b2,off2,none⟩) n cap) /\ Slot l 10 u41 (.int .i64 (k : Int)) /\ Slot l 11 u42 (.pointer (some ⟨b2,off2 + k * 4,none⟩)) /\ Slot l 12 u43 (V y) /\ Slot l 13 u44 (V y) /\ Slot l 14 u45 (.bool true) /\ Off (fun _ => False) wr0 w') (by kernel_rfl) (by kernel_rfl) ?_ ⟨?_,?_,?_,?_,?_,?_,?_,?_,?_,?_,?_,?_,?_,?_,?_,trivial⟩ ?_
     ·refine ⟨?z31,?z32,?z33,?z34,?z35,?z36,?z37,?z38,?z39,?z40,?z41,?z42,?z43,?z44,?z45,?fr,Slot.start _ _ _,Slot.start _ _ _,Slot.start _ _ _,Slot.start _ _ _,Slot.start _ _ _,Slot.start _ _ _,Slot.start _ _ _,Slot.start _ _ _,Slot.start _ _ _,Slot.start _ _ _,Slot.start _ _ _,Slot.start _ _ _,Slot.start _ _ _,Slot.start _ _ _,Slot.start _ _ _,HOr.out.drew⟩
      case fr => first | (simp only [Act.put,List.setIfInBounds_toArray,List.set_cons_zero,List.set_cons_succ]; rfl) | simp only [Act.put,List.setIfInBounds_toArray,List.set_cons_zero,List.set_cons_succ]
     ·intro l a wr hI hl hd K' hK
      obtain ⟨u31,u32,u33,u34,u35,u36,u37,u38,u39,u40,u41,u42,u43,u44,u45,ha,s0,s1,s2,s3,s4,s5,s6,s7,s8,s9,s10,s11,s12,s13,s14,hO⟩ := hI
      simp only [Act.put,List.setIfInBounds_toArray,List.set_cons_zero,List.set_cons_succ] at ha
      subst ha
      have hc := HKr.out wr hO
      have p0 := hc.1.1
      have p1 := hc.1.2.1
      have p2 := hc.1.2.2.1
      have p3 := hc.1.2.2.2
      clear hc
      go_simp
      refine hK.out _ _ ⟨_,_,_,_,_,_,_,_,_,_,_,_,_,_,_,?_,Slot.new _ _ _,s1.keep rfl,s2.keep rfl,s3.keep rfl,s4.keep rfl,s5.keep rfl,s6.keep rfl,s7.keep rfl,s8.keep rfl,s9.keep rfl,s10.keep rfl,s11.keep rfl,s12.keep rfl,s13.keep rfl,s14.keep rfl,hO⟩
      simp only [Act.put,List.setIfInBounds_toArray,List.set_cons_zero,List.set_cons_succ]
     ·intro l a wr hI hl hd K' hK
      obtain ⟨u31,u32,u33,u34,u35,u36,u37,u38,u39,u40,u41,u42,u43,u44,u45,ha,s0,s1,s2,s3,s4,s5,s6,s7,s8,s9,s10,s11,s12,s13,s14,hO⟩ := hI
      simp only [Act.put,List.setIfInBounds_toArray,List.set_cons_zero,List.set_cons_succ] at ha
      subst ha
      go_simp
      refine hK.out _ _ ⟨_,_,_,_,_,_,_,_,_,_,_,_,_,_,_,?_,s0.keep rfl,Slot.new _ _ _,s2.keep rfl,s3.keep rfl,s4.keep rfl,s5.keep rfl,s6.keep rfl,s7.keep rfl,s8.keep rfl,s9.keep rfl,s10.keep rfl,s11.keep rfl,s12.keep rfl,s13.keep rfl,s14.keep rfl,hO⟩
      simp only [Act.put,List.setIfInBounds_toArray,List.set_cons_zero,List.set_cons_succ]
     ·intro l a wr hI hl hd K' hK
      obtain ⟨u31,u32,u33,u34,u35,u36,u37,u38,u39,u40,u41,u42,u43,u44,u45,ha,s0,s1,s2,s3,s4,s5,s6,s7,s8,s9,s10,s11,s12,s13,s14,hO⟩ := hI
      simp only [Act.put,List.setIfInBounds_toArray,List.set_cons_zero,List.set_cons_succ] at ha
      subst ha
      go_simp
      refine hK.out _ _ ⟨_,_,_,_,_,_,_,_,_,_,_,_,_,_,_,?_,s0.keep rfl,s1.keep rfl,Slot.new _ _ _,s3.keep rfl,s4.keep rfl,s5.keep rfl,s6.keep rfl,s7.keep rfl,s8.keep rfl,s9.keep rfl,s10.keep rfl,s11.keep rfl,s12.keep rfl,s13.keep rfl,s14.keep rfl,hO⟩
      simp only [Act.put,List.setIfInBounds_toArray,List.set_cons_zero,List.set_cons_succ]
     ·intro l a wr hI hl hd K' hK
      obtain ⟨u31,u32,u33,u34,u35,u36,u37,u38,u39,u40,u41,u42,u43,u44,u45,ha,s0,s1,s2,s3,s4,s5,s6,s7,s8,s9,s10,s11,s12,s13,s14,hO⟩ := hI
      simp only [Act.put,List.setIfInBounds_toArray,List.set_cons_zero,List.set_cons_succ] at ha
      subst ha
      go_simp
      refine hK.out _ _ ⟨_,_,_,_,_,_,_,_,_,_,_,_,_,_,_,?_,s0.keep rfl,s1.keep rfl,s2.keep rfl,Slot.new _ _ _,s4.keep rfl,s5.keep rfl,s6.keep rfl,s7.keep rfl,s8.keep rfl,s9.keep rfl,s10.keep rfl,s11.keep rfl,s12.keep rfl,s13.keep rfl,s14.keep rfl,hO⟩
      simp only [Act.put,List.setIfInBounds_toArray,List.set_cons_zero,List.set_cons_succ]
     ·intro l a wr hI hl hd K' hK
      obtain ⟨u31,u32,u33,u34,u35,u36,u37,u38,u39,u40,u41,u42,u43,u44,u45,ha,s0,s1,s2,s3,s4,s5,s6,s7,s8,s9,s10,s11,s12,s13,s14,hO⟩ := hI
      simp only [Act.put,List.setIfInBounds_toArray,List.set_cons_zero,List.set_cons_succ] at ha
      have q2 := s2 (hd 2 (by decide))
      have q3 := s3 (hd 3 (by decide))
      subst ha q2 q3
      go_simp
      refine hK.out _ _ ⟨_,_,_,_,_,_,_,_,_,_,_,_,_,_,_,?_,s0.keep rfl,s1.keep rfl,s2.keep rfl,s3.keep rfl,Slot.new _ _ _,s5.keep rfl,s6.keep rfl,s7.keep rfl,s8.keep rfl,s9.keep rfl,s10.keep rfl,s11.keep rfl,s12.keep rfl,s13.keep rfl,s14.keep rfl,hO⟩
      simp only [Act.put,List.setIfInBounds_toArray,List.set_cons_zero,List.set_cons_succ]
     ·intro l a wr hI hl hd K' hK
      obtain ⟨u31,u32,u33,u34,u35,u36,u37,u38,u39,u40,u41,u42,u43,u44,u45,ha,s0,s1,s2,s3,s4,s5,s6,s7,s8,s9,s10,s11,s12,s13,s14,hO⟩ := hI
      simp only [Act.put,List.setIfInBounds_toArray,List.set_cons_zero,List.set_cons_succ] at ha
      have q4 := s4 (hd 4 (by decide))
      subst ha q4
      have hc := HKr.out wr hO
      have p0 := hc.2.2.1
      clear hc
      go_simp
      refine hK.out _ _ ⟨_,_,_,_,_,_,_,_,_,_,_,_,_,_,_,?_,s0.keep rfl,s1.keep rfl,s2.keep rfl,s3.keep rfl,s4.keep rfl,Slot.new _ _ _,s6.keep rfl,s7.keep rfl,s8.keep rfl,s9.keep rfl,s10.keep rfl,s11.keep rfl,s12.keep rfl,s13.keep rfl,s14.keep rfl,hO⟩
      simp only [Act.put,List.setIfInBounds_toArray,List.set_cons_zero,List.set_cons_succ]
     ·intro l a wr hI hl hd K' hK
      obtain ⟨u31,u32,u33,u34,u35,u36,u37,u38,u39,u40,u41,u42,u43,u44,u45,ha,s0,s1,s2,s3,s4,s5,s6,s7,s8,s9,s10,s11,s12,s13,s14,hO⟩ := hI
      simp only [Act.put,List.setIfInBounds_toArray,List.set_cons_zero,List.set_cons_succ] at ha
      have q5 := s5 (hd 5 (by decide))
      subst ha q5
      go_simp
      refine (held_inv (FP.out wr) hO).mono ?_
      rintro e w1 ⟨rfl,hO1,hOW⟩
      go_wp2_with fail
      refine hK.out _ _ ⟨_,_,_,_,_,_,_,_,_,_,_,_,_,_,_,?_,s0.keep rfl,s1.keep rfl,s2.keep rfl,s3.keep rfl,s4.keep rfl,s5.keep rfl,Slot.new _ _ _,s7.keep rfl,s8.keep rfl,s9.keep rfl,s10.keep rfl,s11.keep rfl,s12.keep rfl,s13.keep rfl,s14.keep rfl,hO1⟩
      simp only [Act.put,List.setIfInBounds_toArray,List.set_cons_zero,List.set_cons_succ]
     ·intro l a wr hI hl hd K' hK
      obtain ⟨u31,u32,u33,u34,u35,u36,u37,u38,u39,u40,u41,u42,u43,u44,u45,ha,s0,s1,s2,s3,s4,s5,s6,s7,s8,s9,s10,s11,s12,s13,s14,hO⟩ := hI
      simp only [Act.put,List.setIfInBounds_toArray,List.set_cons_zero,List.set_cons_succ] at ha
      have q0 := s0 (hd 0 (by decide))
      have q1 := s1 (hd 1 (by decide))
      have q6 := s6 (hd 6 (by decide))
      subst ha q0 q1 q6
      go_simp
      refine (held_inv (FE.out wr hO) hO).mono ?_
      rintro e w1 ⟨rfl,hO1,hOW⟩
      go_wp2_with fail
      refine hK.out _ _ ⟨_,_,_,_,_,_,_,_,_,_,_,_,_,_,_,?_,s0.keep rfl,s1.keep rfl,s2.keep rfl,s3.keep rfl,s4.keep rfl,s5.keep rfl,s6.keep rfl,Slot.new _ _ _,s8.keep rfl,s9.keep rfl,s10.keep rfl,s11.keep rfl,s12.keep rfl,s13.keep rfl,s14.keep rfl,hO1⟩
      simp only [Act.put,List.setIfInBounds_toArray,List.set_cons_zero,List.set_cons_succ]
     ·intro l a wr hI hl hd K' hK
      obtain ⟨u31,u32,u33,u34,u35,u36,u37,u38,u39,u40,u41,u42,u43,u44,u45,ha,s0,s1,s2,s3,s4,s5,s6,s7,s8,s9,s10,s11,s12,s13,s14,hO⟩ := hI
      simp only [Act.put,List.setIfInBounds_toArray,List.set_cons_zero,List.set_cons_succ] at ha
      subst ha
      have hc := HKr.out wr hO
      have p0 := hc.1.1
      have p1 := hc.1.2.1
      have p2 := hc.1.2.2.1
      have p3 := hc.1.2.2.2
      clear hc
      go_simp
      refine hK.out _ _ ⟨_,_,_,_,_,_,_,_,_,_,_,_,_,_,_,?_,s0.keep rfl,s1.keep rfl,s2.keep rfl,s3.keep rfl,s4.keep rfl,s5.keep rfl,s6.keep rfl,s7.keep rfl,Slot.new _ _ _,s9.keep rfl,s10.keep rfl,s11.keep rfl,s12.keep rfl,s13.keep rfl,s14.keep rfl,hO⟩
      simp only [Act.put,List.setIfInBounds_toArray,List.set_cons_zero,List.set_cons_succ]
     ·intro l a wr hI hl hd K' hK
      obtain ⟨u31,u32,u33,u34,u35,u36,u37,u38,u39,u40,u41,u42,u43,u44,u45,ha,s0,s1,s2,s3,s4,s5,s6,s7,s8,s9,s10,s11,s12,s13,s14,hO⟩ := hI
      simp only [Act.put,List.setIfInBounds_toArray,List.set_cons_zero,List.set_cons_succ] at ha
      subst ha
      go_simp
      refine hK.out _ _ ⟨_,_,_,_,_,_,_,_,_,_,_,_,_,_,_,?_,s0.keep rfl,s1.keep rfl,s2.keep rfl,s3.keep rfl,s4.keep rfl,s5.keep rfl,s6.keep rfl,s7.keep rfl,s8.keep rfl,Slot.new _ _ _,s10.keep rfl,s11.keep rfl,s12.keep rfl,s13.keep rfl,s14.keep rfl,hO⟩
      simp only [Act.put,List.setIfInBounds_toArray,List.set_cons_zero,List.set_cons_succ]
     ·intro l a wr hI hl hd K' hK
      obtain ⟨u31,u32,u33,u34,u35,u36,u37,u38,u39,u40,u41,u42,u43,u44,u45,ha,s0,s1,s2,s3,s4,s5,s6,s7,s8,s9,s10,s11,s12,s13,s14,hO⟩ := hI
      simp only [Act.put,List.setIfInBounds_toArray,List.set_cons_zero,List.set_cons_succ] at ha
      subst ha
      go_simp
      refine hK.out _ _ ⟨_,_,_,_,_,_,_,_,_,_,_,_,_,_,_,?_,s0.keep rfl,s1.keep rfl,s2.keep rfl,s3.keep rfl,s4.keep rfl,s5.keep rfl,s6.keep rfl,s7.keep rfl,s8.keep rfl,s9.keep rfl,Slot.new _ _ _,s11.keep rfl,s12.keep rfl,s13.keep rfl,s14.keep rfl,hO⟩
      simp only [Act.put,List.setIfInBounds_toArray,List.set_cons_zero,List.set_cons_succ]
     ·intro l a wr hI hl hd K' hK
      obtain ⟨u31,u32,u33,u34,u35,u36,u37,u38,u39,u40,u41,u42,u43,u44,u45,ha,s0,s1,s2,s3,s4,s5,s6,s7,s8,s9,s10,s11,s12,s13,s14,hO⟩ := hI
      simp only [Act.put,List.setIfInBounds_toArray,List.set_cons_zero,List.set_cons_succ] at ha
      have q9 := s9 (hd 9 (by decide))
      have q10 := s10 (hd 10 (by decide))
      subst ha q9 q10
      go_simp
      refine hK.out _ _ ⟨_,_,_,_,_,_,_,_,_,_,_,_,_,_,_,?_,s0.keep rfl,s1.keep rfl,s2.keep rfl,s3.keep rfl,s4.keep rfl,s5.keep rfl,s6.keep rfl,s7.keep rfl,s8.keep rfl,s9.keep rfl,s10.keep rfl,Slot.new _ _ _,s12.keep rfl,s13.keep rfl,s14.keep rfl,hO⟩
      simp only [Act.put,List.setIfInBounds_toArray,List.set_cons_zero,List.set_cons_succ]
     ·intro l a wr hI hl hd K' hK
      obtain ⟨u31,u32,u33,u34,u35,u36,u37,u38,u39,u40,u41,u42,u43,u44,u45,ha,s0,s1,s2,s3,s4,s5,s6,s7,s8,s9,s10,s11,s12,s13,s14,hO⟩ := hI
      simp only [Act.put,List.setIfInBounds_toArray,List.set_cons_zero,List.set_cons_succ] at ha
      have q11 := s11 (hd 11 (by decide))
      subst ha q11
      have hc := HKr.out wr hO
      have p0 := hc.2.1.1
      have p1 := hc.2.1.2.1
      have p2 := hc.2.1.2.2.1
      have p3 := hc.2.1.2.2.2
      clear hc
      go_simp
      refine hK.out _ _ ⟨_,_,_,_,_,_,_,_,_,_,_,_,_,_,_,?_,s0.keep rfl,s1.keep rfl,s2.keep rfl,s3.keep rfl,s4.keep rfl,s5.keep rfl,s6.keep rfl,s7.keep rfl,s8.keep rfl,s9.keep rfl,s10.keep rfl,s11.keep rfl,Slot.new _ _ _,s13.keep rfl,s14.keep rfl,hO⟩
      simp only [Act.put,List.setIfInBounds_toArray,List.set_cons_zero,List.set_cons_succ]
     ·intro l a wr hI hl hd K' hK
      obtain ⟨u31,u32,u33,u34,u35,u36,u37,u38,u39,u40,u41,u42,u43,u44,u45,ha,s0,s1,s2,s3,s4,s5,s6,s7,s8,s9,s10,s11,s12,s13,s14,hO⟩ := hI
      simp only [Act.put,List.setIfInBounds_toArray,List.set_cons_zero,List.set_cons_succ] at ha
      have q8 := s8 (hd 8 (by decide))
      have q12 := s12 (hd 12 (by decide))
      subst ha q8 q12
      go_simp
      refine (held_inv (FM.out wr) hO).mono ?_
      rintro e w1 ⟨rfl,hO1,hOW⟩
      go_wp2_with fail
      refine hK.out _ _ ⟨_,_,_,_,_,_,_,_,_,_,_,_,_,_,_,?_,s0.keep rfl,s1.keep rfl,s2.keep rfl,s3.keep rfl,s4.keep rfl,s5.keep rfl,s6.keep rfl,s7.keep rfl,s8.keep rfl,s9.keep rfl,s10.keep rfl,s11.keep rfl,s12.keep rfl,Slot.new _ _ _,s14.keep rfl,hO1⟩
      simp only [Act.put,List.setIfInBounds_toArray,List.set_cons_zero,List.set_cons_succ]
     ·intro l a wr hI hl hd K' hK
      obtain ⟨u31,u32,u33,u34,u35,u36,u37,u38,u39,u40,u41,u42,u43,u44,u45,ha,s0,s1,s2,s3,s4,s5,s6,s7,s8,s9,s10,s11,s12,s13,s14,hO⟩ := hI
      simp only [Act.put,List.setIfInBounds_toArray,List.set_cons_zero,List.set_cons_succ] at ha
      have q7 := s7 (hd 7 (by decide))
      have q13 := s13 (hd 13 (by decide))
      subst ha q7 q13
      go_simp
      refine hK.out _ _ ⟨_,_,_,_,_,_,_,_,_,_,_,_,_,_,_,?_,s0.keep rfl,s1.keep rfl,s2.keep rfl,s3.keep rfl,s4.keep rfl,s5.keep rfl,s6.keep rfl,s7.keep rfl,s8.keep rfl,s9.keep rfl,s10.keep rfl,s11.keep rfl,s12.keep rfl,s13.keep rfl,Slot.new _ _ _,hO⟩
      simp only [Act.put,List.setIfInBounds_toArray,List.set_cons_zero,List.set_cons_succ]
     ·intro l a wc hI hd
      obtain ⟨u31,u32,u33,u34,u35,u36,u37,u38,u39,u40,u41,u42,u43,u44,u45,ha,s0,s1,s2,s3,s4,s5,s6,s7,s8,s9,s10,s11,s12,s13,s14,hO⟩ := hI
      simp only [Act.put,List.setIfInBounds_toArray,List.set_cons_zero,List.set_cons_succ] at ha
      have q0 := s0 (hd 0 (by decide))
      have q1 := s1 (hd 1 (by decide))
      have q2 := s2 (hd 2 (by decide))
      have q3 := s3 (hd 3 (by decide))
      have q4 := s4 (hd 4 (by decide))
      have q5 := s5 (hd 5 (by decide))
      have q6 := s6 (hd 6 (by decide))
      have q7 := s7 (hd 7 (by decide))
      have q8 := s8 (hd 8 (by decide))
      have q9 := s9 (hd 9 (by decide))
      have q10 := s10 (hd 10 (by decide))
      have q11 := s11 (hd 11 (by decide))
      have q12 := s12 (hd 12 (by decide))
      have q13 := s13 (hd 13 (by decide))
      have q14 := s14 (hd 14 (by decide))
      subst ha q0 q1 q2 q3 q4 q5 q6 q7 q8 q9 q10 q11 q12 q13 q14
      clear hd s0 s1 s2 s3 s4 s5 s6 s7 s8 s9 s10 s11 s12 s13 s14
      have HO5 := Lib.hid (HOw.out.trans (HOg.out.trans hO (fun _ _ c => c)) (fun _ _ c => c))
      clear hO
      go_wp2
      go_ret
      exact ⟨by rw [HFv.out]; rfl,HO5.out⟩
   ·obtain rfl : k = n := by omega
    have hfv : fitV p (ptV xs) ys k0.toNat = true := HYn.out.2 HGo.out
    have HFv := Lib.hid hfv
    have HO5 := Lib.hid (HOw.out.trans hO (fun _ _ c => c))
    clear hfv hO hz
    go_wp2
    go_ret
    exact ⟨by rw [HFv.out]; rfl,HO5.out⟩
end Go.Proofs.YtggebccgiigboaaDoor
-- squeezed
