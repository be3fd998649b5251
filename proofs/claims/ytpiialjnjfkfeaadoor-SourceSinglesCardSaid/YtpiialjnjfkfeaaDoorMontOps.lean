/-
  Contracts of package mont but Mul over this seat's translation: Square, Add, Sub, Neg, To, From, Choose, IsZero. Conditions: the field's constants are those of its modulus, the elements lie below it.
-/
import Derived.Test.YtpiialjnjfkfeaaDoorMontMul
import Derived.Test.YtpiialjnjfkfeaaDoorLimbCmp
namespace Go.Proofs.YtpiialjnjfkfeaaDoor
open Go.RowKit

attribute [local go_sem ↓] Go.wp_at_zero Go.wp_at_succ
/-- A new block behind others. -/
theorem new_last {w w' : World} {o : Obj} {n : Nat} (hO : Off (fun _ => False) w w') (h : w.heap[n]? = some o) : w'.heap[n]? = some o := hO.heap h (fun c => c)
set_option maxRecDepth 100000 in
set_option maxHeartbeats 2000000 in
theorem mto_any {id : Int} {p i r s : Nat} (hF : Fld id p i r s) (a : Nat) (ha : a < R256) (w : World) : Calls Tryd.prog 39 #[FV id p i r s, V a] w fun e w' => e = .returned (V (fm p (a % p))) ∧ Off (fun _ => False) w w' := by
  have hsp : s < p := by rw [hF.ss]; exact Nat.mod_lt _ hF.mp.pos
  have HC := Lib.hid (fun W => by have h := mmul_any hF a s ha hsp W; rw [show mm p a s = fm p (a % p) by rw [hF.ss]; exact mm_square hF.mp a] at h; exact h)
  obtain ⟨x, hx⟩ : ∃ x, x = fm p (a % p) := ⟨_, rfl⟩
  rw [← hx] at HC ⊢
  clear hF ha hsp hx
  go_enter Tryd.func39, Tryd.ntmps39
  go_wp2_with fail
  refine (HC.out _).mono ?_
  rintro e u1 ⟨rfl, hO⟩
  have hR : u1.heap[w.heap.size + 1 + 1]? = some (.cells #[.int .u64 0, .int .u64 0, .int .u64 0, .int .u64 0] 40) := hO.heap (heap_new' (by simp) _) (fun c => c)
  obtain ⟨⟨r0, r1, r2, r3⟩, fz, lt⟩ := zero_cells hR
  have HO := Lib.hid (((((Off.refl _ w).alloc _).alloc _).alloc _).trans hO (fun _ _ c => c))
  clear hR hO
  go_wp2
  refine bodyPost_ret (v := V x) (by simp [results, Tryd.results39, go_sem, r0, r1, r2, r3]) rfl ⟨rfl, ?_⟩
  exact off4 HO.out (by omega) _ _ _ _
set_option maxRecDepth 100000 in
set_option maxHeartbeats 2000000 in
theorem rsum_any {id : Int} {p i r s : Nat} (hF : Fld id p i r s) (a b : Nat) (ha : a < R256) (hb : b < R256) (hab : a + b < 2 * p) (w : World) : Calls Tryd.prog 46 #[.func (.func 47) #[FV id p i r s] #[], V a, V b] w fun e w' => e = .returned (V ((a + b) % p)) ∧ Off (fun _ => False) w w' := by
  have hp := hF.mp.lt
  have hc2 : (a + b) / R256 < 2 := (Nat.div_lt_iff_lt_mul (by decide)).2 (by omega)
  have HS := Lib.hid (fun W => add_any a b ha hb W)
  have HC := Lib.hid (fun W => by
    have h := subtract_any id p i r s ((a + b) % R256) (((a + b) / R256 : Nat) : Int) hp (Nat.mod_lt _ (by decide)) (word_cast (Nat.lt_trans hc2 (by decide))) W
    rw [V_mod, redV_two hp hab] at h
    exact h)
  obtain ⟨x, hx⟩ : ∃ x, x = (a + b) % p := ⟨_, rfl⟩
  obtain ⟨c, hc⟩ : ∃ c, c = (a + b) / R256 := ⟨_, rfl⟩
  obtain ⟨t, ht⟩ : ∃ t, t = a + b := ⟨_, rfl⟩
  rw [← hx] at HC ⊢
  rw [← hc] at HC HS
  rw [← ht] at HC HS
  clear hF ha hb hab hp hc2 hx hc ht
  go_enter Tryd.func46, Tryd.ntmps46
  go_wp2_with fail
  refine (HS.out _).mono ?_
  rintro e u1 ⟨rfl, hO⟩
  have HR1 := Lib.hid (show u1.heap[w.heap.size + 1 + 1]? = some (.cells #[.int .u64 0, .int .u64 0, .int .u64 0, .int .u64 0] 40) from hO.heap (heap_new' (by simp) _) (fun c => c))
  have HO1 := Lib.hid (((((Off.refl _ w).alloc _).alloc _).alloc _).trans hO (fun _ _ c => c))
  clear hO
  go_wp2_with fail
  refine (HC.out _).mono ?_
  rintro e u2 ⟨rfl, hO⟩
  have hR : u2.heap[w.heap.size + 1 + 1]? = some (.cells #[.int .u64 0, .int .u64 0, .int .u64 0, .int .u64 0] 40) := hO.heap HR1.out (fun c => c)
  obtain ⟨⟨r0, r1, r2, r3⟩, fz, lt⟩ := zero_cells hR
  have HO := Lib.hid (HO1.out.trans hO (fun _ _ c => c))
  clear hR hO
  go_wp2
  refine bodyPost_ret (v := V x) (by simp [results, Tryd.results46, go_sem, r0, r1, r2, r3]) rfl ⟨rfl, ?_⟩
  exact off4 HO.out (by omega) _ _ _ _
set_option maxRecDepth 100000 in
set_option maxHeartbeats 2000000 in
theorem madd_any {id : Int} {p i r s : Nat} (hF : Fld id p i r s) (u v : Nat) (hu : u < p) (hv : v < p) (w : World) : Calls Tryd.prog 41 #[FV id p i r s, V u, V v] w fun e w' => e = .returned (V ((u + v) % p)) ∧ Off (fun _ => False) w w' := by
  have hp := hF.mp.lt
  have HC := Lib.hid (fun W => rsum_any hF u v (by omega) (by omega) (by omega) W)
  obtain ⟨x, hx⟩ : ∃ x, x = (u + v) % p := ⟨_, rfl⟩
  rw [← hx] at HC ⊢
  clear hF hu hv hp hx
  have hmf : ∀ (fn : Fn) (first cap : Array Value) (W : World), (Instr.makeFunc fn first cap).run Tryd.prog W = .ok (.func fn first cap) W := fun _ _ _ _ => rfl
  go_enter Tryd.func41, Tryd.ntmps41
  go_wp2_with fail
  refine (HC.out _).mono ?_
  rintro e u1 ⟨rfl, hO⟩
  have hR : u1.heap[w.heap.size + 1 + 1 + 1]? = some (.cells #[.int .u64 0, .int .u64 0, .int .u64 0, .int .u64 0] 40) := hO.heap (heap_new' (by simp) _) (fun c => c)
  obtain ⟨⟨r0, r1, r2, r3⟩, fz, lt⟩ := zero_cells hR
  have HO := Lib.hid ((((((Off.refl _ w).alloc _).alloc _).alloc _).alloc _).trans hO (fun _ _ c => c))
  clear hR hO
  go_wp2
  refine bodyPost_ret (v := V x) (by simp [results, Tryd.results41, go_sem, r0, r1, r2, r3]) rfl ⟨rfl, ?_⟩
  exact off4 HO.out (by omega) _ _ _ _
end Go.Proofs.YtpiialjnjfkfeaaDoor
