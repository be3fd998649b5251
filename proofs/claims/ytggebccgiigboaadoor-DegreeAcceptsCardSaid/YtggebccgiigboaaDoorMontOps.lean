/-
  Contracts of package mont but Mul over this seat's translation: Square, Add, Sub, Neg, To, From, Choose, IsZero. Conditions: the field's constants are those of its modulus, the elements lie below it.
-/
import Derived.Test.YtggebccgiigboaaDoorMontMul
import Derived.Test.YtggebccgiigboaaDoorLimbWords
namespace Go.Proofs.YtggebccgiigboaaDoor
open Go.RowKit

attribute [local go_sem ↓] Go.wp_at_zero Go.wp_at_succ
set_option maxRecDepth 100000 in
set_option maxHeartbeats 2000000 in
theorem msquare_any {id : Int} {p i r s : Nat} (hF : Fld id p i r s) (u : Nat) (hu : u < p) (w : World) : Calls Tryd.prog 110 #[FV id p i r s,V u] w fun e w' => e = .returned (V (mm p u u)) /\ Off (fun _ => False) w w' := by
 have hp := hF.mp.lt
 have HC := Lib.hid (fun W => mmul_any hF u u (by omega) hu W)
 obtain ⟨x,hx⟩ : ∃ x,x = mm p u u := ⟨_,rfl⟩
 rw [<- hx] at HC ⊢
 clear hF hu hp hx
 go_enter Tryd.func110,Tryd.ntmps110
 go_wp2_with fail
 refine (HC.out _).mono ?_
 rintro e u1 ⟨rfl,hO⟩
 have hR : u1.heap[w.heap.size + 1 + 1]? = some (.cells #[.int .u64 0,.int .u64 0,.int .u64 0,.int .u64 0] 29) := hO.heap (heap_new' (by simp) _) (fun c => c)
 obtain ⟨⟨r0,r1,r2,r3⟩,fz,lt⟩ := zero_cells hR
 have HO := Lib.hid (((((Off.refl _ w).alloc _).alloc _).alloc _).trans hO (fun _ _ c => c))
 clear hR hO
 go_wp2
 refine bodyPost_ret (v := V x) (by simp [results,Tryd.results110,go_sem,r0,r1,r2,r3]) rfl ⟨rfl,?_⟩
 exact off4 HO.out (by omega) _ _ _ _
set_option maxRecDepth 100000 in
set_option maxHeartbeats 2000000 in
theorem mto_any {id : Int} {p i r s : Nat} (hF : Fld id p i r s) (a : Nat) (ha : a < R256) (w : World) : Calls Tryd.prog 70 #[FV id p i r s,V a] w fun e w' => e = .returned (V (fm p (a % p))) /\ Off (fun _ => False) w w' := by
 have hsp : s < p := by rw [hF.ss]; exact Nat.mod_lt _ hF.mp.pos
 have HC := Lib.hid (fun W => by have h := mmul_any hF a s ha hsp W; rw [show mm p a s = fm p (a % p) by rw [hF.ss]; exact mm_square hF.mp a] at h; exact h)
 obtain ⟨x,hx⟩ : ∃ x,x = fm p (a % p) := ⟨_,rfl⟩
 rw [<- hx] at HC ⊢
 clear hF ha hsp hx
 go_enter Tryd.func70,Tryd.ntmps70
 go_wp2_with fail
 refine (HC.out _).mono ?_
 rintro e u1 ⟨rfl,hO⟩
 have hR : u1.heap[w.heap.size + 1 + 1]? = some (.cells #[.int .u64 0,.int .u64 0,.int .u64 0,.int .u64 0] 29) := hO.heap (heap_new' (by simp) _) (fun c => c)
 obtain ⟨⟨r0,r1,r2,r3⟩,fz,lt⟩ := zero_cells hR
 have HO := Lib.hid (((((Off.refl _ w).alloc _).alloc _).alloc _).trans hO (fun _ _ c => c))
 clear hR hO
 go_wp2
 refine bodyPost_ret (v := V x) (by simp [results,Tryd.results70,go_sem,r0,r1,r2,r3]) rfl ⟨rfl,?_⟩
 exact off4 HO.out (by omega) _ _ _ _
set_option maxRecDepth 100000 in
set_option maxHeartbeats 2000000 in
theorem mchoose_any (m : Int) (hm : Word m) (a b : Nat) (w : World) : Calls Tryd.prog 99 #[.int .u64 m,V a,V b] w fun e w' => e = .returned (V (selN m a b)) /\ Off (fun _ => False) w w' := by
 have HC := Lib.hid (fun W => limb_choose m hm a b W)
 obtain ⟨x,hx⟩ : ∃ x,x = selN m a b := ⟨_,rfl⟩
 rw [<- hx] at HC ⊢
 clear hm hx
 go_enter Tryd.func99,Tryd.ntmps99
 go_wp2_with fail
 refine (HC.out _).mono ?_
 rintro e u1 ⟨rfl,hO⟩
 have hR : u1.heap[w.heap.size + 1 + 1]? = some (.cells #[.int .u64 0,.int .u64 0,.int .u64 0,.int .u64 0] 29) := hO.heap (heap_new' (by simp) _) (fun c => c)
 obtain ⟨⟨r0,r1,r2,r3⟩,fz,lt⟩ := zero_cells hR
 have HO := Lib.hid (((((Off.refl _ w).alloc _).alloc _).alloc _).trans hO (fun _ _ c => c))
 clear hR hO
 go_wp2
 refine bodyPost_ret (v := V x) (by simp [results,Tryd.results99,go_sem,r0,r1,r2,r3]) rfl ⟨rfl,?_⟩
 exact off4 HO.out (by omega) _ _ _ _
set_option maxHeartbeats 1000000 in
theorem miszero_any (a : Nat) (ha : a < R256) (w : World) : Calls Tryd.prog 100 #[V a] w fun e w' => e = .returned (.int .u64 (mk (zeroN a))) /\ Off (fun _ => False) w w' := by
 have HC := Lib.hid (fun W => limb_iszero a ha W)
 obtain ⟨c,hc⟩ : ∃ c,c = zeroN a := ⟨_,rfl⟩
 rw [<- hc] at HC ⊢
 clear ha hc
 go_enter Tryd.func100,Tryd.ntmps100
 go_wp2_with fail
 refine (HC.out _).mono ?_
 rintro e w1 ⟨rfl,hO⟩
 have HO := Lib.hid hO
 clear hO
 go_wp2
 go_ret
 exact ⟨rfl,((Off.refl _ w).alloc _).trans HO.out (fun _ _ c => c)⟩
set_option maxRecDepth 100000 in
set_option maxHeartbeats 2000000 in
theorem rsum_any {id : Int} {p i r s : Nat} (hF : Fld id p i r s) (a b : Nat) (ha : a < R256) (hb : b < R256) (hab : a + b < 2 * p) (w : World) : Calls Tryd.prog 76 #[.func (.func 77) #[FV id p i r s] #[],V a,V b] w fun e w' => e = .returned (V ((a + b) % p)) /\ Off (fun _ => False) w w' := by
 have hp := hF.mp.lt
 have hc2 : (a + b) / R256 < 2 := (Nat.div_lt_iff_lt_mul (by decide)).2 (by omega)
 have HS := Lib.hid (fun W => add_any a b ha hb W)
 have HC := Lib.hid (fun W => by
  have h := subtract_any id p i r s ((a + b) % R256) (((a + b) / R256 : Nat) : Int) hp (Nat.mod_lt _ (by decide)) (word_cast (Nat.lt_trans hc2 (by decide))) W
  rw [V_mod,redV_two hp hab] at h
  exact h)
 obtain ⟨x,hx⟩ : ∃ x,x = (a + b) % p := ⟨_,rfl⟩
 obtain ⟨c,hc⟩ : ∃ c,c = (a + b) / R256 := ⟨_,rfl⟩
 obtain ⟨t,ht⟩ : ∃ t,t = a + b := ⟨_,rfl⟩
 rw [<- hx] at HC ⊢
 rw [<- hc] at HC HS
 rw [<- ht] at HC HS
 clear hF ha hb hab hp hc2 hx hc ht
 go_enter Tryd.func76,Tryd.ntmps76
 go_wp2_with fail
 refine (HS.out _).mono ?_
 rintro e u1 ⟨rfl,hO⟩
 have HR1 := Lib.hid (show u1.heap[w.heap.size + 1 + 1]? = some (.cells #[.int .u64 0,.int .u64 0,.int .u64 0,.int .u64 0] 29) from hO.heap (heap_new' (by simp) _) (fun c => c))
 have HO1 := Lib.hid (((((Off.refl _ w).alloc _).alloc _).alloc _).trans hO (fun _ _ c => c))
 clear hO
 go_wp2_with fail
 refine (HC.out _).mono ?_
 rintro e u2 ⟨rfl,hO⟩
 have hR : u2.heap[w.heap.size + 1 + 1]? = some (.cells #[.int .u64 0,.int .u64 0,.int .u64 0,.int .u64 0] 29) := hO.heap HR1.out (fun c => c)
 obtain ⟨⟨r0,r1,r2,r3⟩,fz,lt⟩ := zero_cells hR
 have HO := Lib.hid (HO1.out.trans hO (fun _ _ c => c))
 clear hR hO
 go_wp2
 refine bodyPost_ret (v := V x) (by simp [results,Tryd.results76,go_sem,r0,r1,r2,r3]) rfl ⟨rfl,?_⟩
 exact off4 HO.out (by omega) _ _ _ _
set_option maxRecDepth 100000 in
set_option maxHeartbeats 2000000 in
theorem madd_any {id : Int} {p i r s : Nat} (hF : Fld id p i r s) (u v : Nat) (hu : u < p) (hv : v < p) (w : World) : Calls Tryd.prog 53 #[FV id p i r s,V u,V v] w fun e w' => e = .returned (V ((u + v) % p)) /\ Off (fun _ => False) w w' := by
 have hp := hF.mp.lt
 have HC := Lib.hid (fun W => rsum_any hF u v (by omega) (by omega) (by omega) W)
 obtain ⟨x,hx⟩ : ∃ x,x = (u + v) % p := ⟨_,rfl⟩
 rw [<- hx] at HC ⊢
 clear hF hu hv hp hx
 have hmf : ∀ (fn : Fn) (first cap : Array Value) (W : World),(Instr.makeFunc fn first cap).run Tryd.prog W = .ok (.func fn first cap) W := fun _ _ _ _ => rfl
 go_enter Tryd.func53,Tryd.ntmps53
 go_wp2_with fail
 refine (HC.out _).mono ?_
 rintro e u1 ⟨rfl,hO⟩
 have hR : u1.heap[w.heap.size + 1 + 1 + 1]? = some (.cells #[.int .u64 0,.int .u64 0,.int .u64 0,.int .u64 0] 29) := hO.heap (heap_new' (by simp) _) (fun c => c)
 obtain ⟨⟨r0,r1,r2,r3⟩,fz,lt⟩ := zero_cells hR
 have HO := Lib.hid ((((((Off.refl _ w).alloc _).alloc _).alloc _).alloc _).trans hO (fun _ _ c => c))
 clear hR hO
 go_wp2
 refine bodyPost_ret (v := V x) (by simp [results,Tryd.results53,go_sem,r0,r1,r2,r3]) rfl ⟨rfl,?_⟩
 exact off4 HO.out (by omega) _ _ _ _
set_option maxRecDepth 100000 in
set_option maxHeartbeats 2000000 in
theorem msub_any {id : Int} {p i r s : Nat} (hF : Fld id p i r s) (u v : Nat) (hu : u < p) (hv : v < p) (w : World) : Calls Tryd.prog 80 #[FV id p i r s,V u,V v] w fun e w' => e = .returned (V ((u + (p - v)) % p)) /\ Off (fun _ => False) w w' := by
 have hp := hF.mp.lt
 have HS := Lib.hid (fun W => by
  have h := sub_any p v hp (by omega) W
  rw [show V (subV p v) = V (p - v) by rw [<- V_mod (subV p v)]; congr 1; unfold subV R256 W64 at *; simp only [Nat.reducePow] at *; omega] at h
  exact h)
 have HC := Lib.hid (fun W => rsum_any hF u (p - v) (by omega) (by omega) (by omega) W)
 obtain ⟨x,hx⟩ : ∃ x,x = (u + (p - v)) % p := ⟨_,rfl⟩
 obtain ⟨d,hd⟩ : ∃ d,d = p - v := ⟨_,rfl⟩
 obtain ⟨c,hc⟩ : ∃ c,c = ltN p v := ⟨_,rfl⟩
 rw [<- hx] at HC ⊢
 rw [<- hd] at HC HS
 rw [<- hc] at HS
 clear hF hu hv hp hx hd hc
 have hmf : ∀ (fn : Fn) (first cap : Array Value) (W : World),(Instr.makeFunc fn first cap).run Tryd.prog W = .ok (.func fn first cap) W := fun _ _ _ _ => rfl
 go_enter Tryd.func80,Tryd.ntmps80
 go_wp2_with fail
 refine (HS.out _).mono ?_
 rintro e u1 ⟨rfl,hO⟩
 have hFb : u1.heap[w.heap.size]? = some (.cells #[.int .i64 id,.int .u64 (wd p 0 : Int),.int .u64 (wd p 1 : Int),.int .u64 (wd p 2 : Int),.int .u64 (wd p 3 : Int),.int .u64 (i : Int),.int .u64 (wd r 0 : Int),.int .u64 (wd r 1 : Int),.int .u64 (wd r 2 : Int),.int .u64 (wd r 3 : Int),.int .u64 (wd s 0 : Int),.int .u64 (wd s 1 : Int),.int .u64 (wd s 2 : Int),.int .u64 (wd s 3 : Int)] 31) := hO.heap (heap_old' (heap_old' (heap_old' (heap_new' rfl _) _) _) _) (fun c => c)
 have hU : u1.heap[w.heap.size + 1]? = some (.cells #[.int .u64 (wd u 0 : Int),.int .u64 (wd u 1 : Int),.int .u64 (wd u 2 : Int),.int .u64 (wd u 3 : Int)] 29) := hO.heap (heap_old' (heap_old' (heap_new' (by simp) _) _) _) (fun c => c)
 have hZ : u1.heap[w.heap.size + 1 + 1 + 1]? = some (.cells #[.int .u64 0,.int .u64 0,.int .u64 0,.int .u64 0] 29) := hO.heap (heap_new' (by simp) _) (fun c => c)
 have lt := heap_lt hZ
 have lf := heap_lt hFb
 have la := heap_lt hU
 obtain ⟨f0,f1,f2,f3,f4,f5,f6,f7,f8,f9,f10,f11,f12,f13⟩ := fv_cells hFb
 obtain ⟨a0,a1,a2,a3⟩ := cells4 hU
 have HR1 := Lib.hid hZ
 have HO1 := Lib.hid ((((((Off.refl _ w).alloc _).alloc _).alloc _).alloc _).trans hO (fun _ _ c => c))
 clear hO hFb hU hZ
 go_wp2_with fail
 refine (HC.out _).mono ?_
 rintro e u2 ⟨rfl,hO⟩
 have hR : u2.heap[w.heap.size + 1 + 1 + 1]? = some (.cells #[.int .u64 0,.int .u64 0,.int .u64 0,.int .u64 0] 29) := hO.heap (heap_old' HR1.out _) (fun c => c)
 obtain ⟨⟨r0,r1,r2,r3⟩,fz,lt2⟩ := zero_cells hR
 have HO := Lib.hid ((HO1.out.alloc _).trans hO (fun _ _ c => c))
 clear hR hO
 go_wp2
 refine bodyPost_ret (v := V x) (by simp [results,Tryd.results80,go_sem,r0,r1,r2,r3]) rfl ⟨rfl,?_⟩
 exact off4 HO.out (by omega) _ _ _ _
set_option maxRecDepth 100000 in
set_option maxHeartbeats 2000000 in
theorem mneg_any {id : Int} {p i r s : Nat} (hF : Fld id p i r s) (u : Nat) (hu : u < p) (w : World) : Calls Tryd.prog 72 #[FV id p i r s,V u] w fun e w' => e = .returned (V ((p - u) % p)) /\ Off (fun _ => False) w w' := by
 have hp := hF.mp.lt
 have HC := Lib.hid (fun W => by have h := msub_any hF 0 u (by omega) hu W; rw [lit_small 0 (by decide),Nat.zero_add] at h; exact h)
 obtain ⟨x,hx⟩ : ∃ x,x = (p - u) % p := ⟨_,rfl⟩
 rw [<- hx] at HC ⊢
 clear hF hu hp hx
 go_enter Tryd.func72,Tryd.ntmps72
 go_wp2_with fail
 refine (HC.out _).mono ?_
 rintro e u1 ⟨rfl,hO⟩
 have hR : u1.heap[w.heap.size + 1 + 1]? = some (.cells #[.int .u64 0,.int .u64 0,.int .u64 0,.int .u64 0] 29) := hO.heap (heap_new' (by simp) _) (fun c => c)
 obtain ⟨⟨r0,r1,r2,r3⟩,fz,lt⟩ := zero_cells hR
 have HO := Lib.hid (((((Off.refl _ w).alloc _).alloc _).alloc _).trans hO (fun _ _ c => c))
 clear hR hO
 go_wp2
 refine bodyPost_ret (v := V x) (by simp [results,Tryd.results72,go_sem,r0,r1,r2,r3]) rfl ⟨rfl,?_⟩
 exact off4 HO.out (by omega) _ _ _ _
end Go.Proofs.YtggebccgiigboaaDoor
-- squeezed
