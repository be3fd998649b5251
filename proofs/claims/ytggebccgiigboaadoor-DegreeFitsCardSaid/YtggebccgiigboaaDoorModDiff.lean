/-
  Contract of the reference's Sub of layer 4 over this seat's translation: the difference modulo p. Conditions: the modulus lies below 2^256, both numbers below it.
-/
import Derived.Test.YtggebccgiigboaaDoorModAll
namespace Go.Proofs.YtggebccgiigboaaDoor
open Go.RowKit

theorem diff_borrow {p a b : Nat} (hp : p < R256) (ha : a < p) (hb : b < p) (h : a < b) : V (subV a b % R256 + p) = V ((a + (p - b)) % p) := by
 rw [<- V_mod (subV a b % R256 + p)]
 congr 1
 rw [Nat.mod_eq_of_lt (show a + (p - b) < p by omega)]
 unfold subV R256 W64 at *
 simp only [Nat.reducePow] at *
 omega
theorem diff_plain {p a b : Nat} (hp : p < R256) (ha : a < p) (hb : b < p) (h : ¬ a < b) : V (subV a b) = V ((a + (p - b)) % p) := by
 rw [<- V_mod (subV a b)]
 congr 1
 rw [show a + (p - b) = (a - b) + p by omega,Nat.add_mod_right,Nat.mod_eq_of_lt (show a - b < p by omega)]
 unfold subV R256 W64 at *
 simp only [Nat.reducePow] at *
 omega
attribute [local go_sem ↓] Go.wp_at_zero Go.wp_at_succ
set_option maxRecDepth 100000 in
set_option maxHeartbeats 2000000 in
theorem mod_diff (p a b : Nat) (hp : p < R256) (ha : a < p) (hb : b < p) (w : World) :
  Calls Tryd.prog 58 #[V p,V a,V b] w fun e w' => e = .returned (V ((a + (p - b)) % p)) /\ Off (fun _ => False) w w' := by
 have qS := fun W => mod_sub a b (by omega) (by omega) W
 obtain ⟨r,hr⟩ : ∃ r,r = (a + (p - b)) % p := ⟨_,rfl⟩
 rw [<- hr]
 by_cases hlt : a < b
 ·have qU := fun W => mod_sum (subV a b % R256) p (Nat.mod_lt _ r256_pos) hp W
  rw [show ltN a b = 1 by unfold ltN; rw [if_pos hlt]] at qS
  simp only [diff_borrow hp ha hb hlt,<- hr] at qU
  simp only [V_mod] at qU
  obtain ⟨c,hc⟩ : ∃ c,c = (subV a b % R256 + p) / R256 := ⟨_,rfl⟩
  simp only [<- hc] at qU
  obtain ⟨d,hd⟩ : ∃ d,d = subV a b := ⟨_,rfl⟩
  simp only [<- hd] at qS qU
  have FS := Lib.hid qS
  have FU := Lib.hid qU
  clear qS qU hr hc hd hlt hp ha hb
  go_enter Tryd.func58,Tryd.ntmps58
  go_wp2_with fail
  refine (FS.out _).mono ?_
  rintro e u ⟨rfl,hO⟩
  have hP : NumAt u w.heap.size p := hO.heap (heap_old' (heap_old' (heap_old' (heap_new' rfl _) _) _) _) (fun c => c)
  have hR : PartAt u (w.heap.size + 1 + 1 + 1) 0 0 := hO.heap (heap_new' (by simp) _) (fun c => c)
  have lp := hP.lt
  obtain ⟨p0,p1,p2,p3⟩ := hP.four
  have HR := Lib.hid hR
  have HO := Lib.hid (((((Off.refl _ w).alloc _).alloc _).alloc _).alloc _ |>.trans hO (fun _ _ c => c))
  clear hP hR hO
  go_wp2_with fail
  refine (FU.out _).mono ?_
  rintro e u2 ⟨rfl,hO2⟩
  have hD : NumAt u2 u.heap.size d := hO2.heap (heap_new' rfl _) (fun c => c)
  have hR2 : PartAt u2 (w.heap.size + 1 + 1 + 1) 0 0 := hO2.heap (heap_old' HR.out _) (fun c => c)
  have ld := hD.lt
  have lr := heap_lt hR2.old
  have l0 : w.heap.size + 1 + 1 + 1 < u.heap.size := heap_lt HR.out.old
  have n1 : u.heap.size ≠ w.heap.size + 1 + 1 + 1 := by omega
  have n2 : w.heap.size + 1 + 1 + 1 ≠ u.heap.size := by omega
  obtain ⟨d0,d1,d2,d3⟩ := hD.four
  have fd := fun j => frozen_of_heap hD j
  obtain ⟨⟨r0,r1,r2,r3⟩,fz⟩ := hR2.four
  have HO2 := Lib.hid ((HO.out.alloc _).trans hO2 (fun _ _ c => c))
  have l1 : w.heap.size <= u.heap.size := HO.out.size
  clear hD hR2 hO2 HR
  go_wp2
  refine bodyPost_ret (v := V r) (by simp [results,Tryd.results58,go_sem,r0,r1,r2,r3]) rfl ⟨rfl,?_⟩
  exact off4 (off4 HO2.out (by omega) _ _ _ _) (by omega) _ _ _ _
 ·rw [show ltN a b = 0 by unfold ltN; rw [if_neg hlt]] at qS
  simp only [diff_plain hp ha hb hlt,<- hr] at qS
  have FS := Lib.hid qS
  clear qS hr hlt hp ha hb
  go_enter Tryd.func58,Tryd.ntmps58
  go_wp2_with fail
  refine (FS.out _).mono ?_
  rintro e u ⟨rfl,hO⟩
  have hR : PartAt u (w.heap.size + 1 + 1 + 1) 0 0 := hO.heap (heap_new' (by simp) _) (fun c => c)
  have lr := heap_lt hR.old
  obtain ⟨⟨r0,r1,r2,r3⟩,fz⟩ := hR.four
  have HO := Lib.hid (((((Off.refl _ w).alloc _).alloc _).alloc _).alloc _ |>.trans hO (fun _ _ c => c))
  clear hR hO
  go_wp2
  refine bodyPost_ret (v := V r) (by simp [results,Tryd.results58,go_sem,r0,r1,r2,r3,lr]) rfl ⟨rfl,?_⟩
  exact (off4 HO.out (by omega) _ _ _ _).alloc _
end Go.Proofs.YtggebccgiigboaaDoor
-- squeezed
