/-
  Contracts of package mont but Mul over this seat's translation: Square, Add, Sub, Neg, To, From, Choose, IsZero. Conditions: the field's constants are those of its modulus, the elements lie below it.
-/
import Derived.Test.YtllhfkcgocbblaaDoorMontMul
import Derived.Test.YtllhfkcgocbblaaDoorLimbCmp
namespace Go.Proofs.YtllhfkcgocbblaaDoor
open Go.RowKit

attribute [local go_sem ↓] Go.wp_at_zero Go.wp_at_succ
/-- A new block behind others. -/
theorem new_last {w w' : World} {o : Obj} {n : Nat} (hO : Off (fun _ => False) w w') (h : w.heap[n]? = some o) : w'.heap[n]? = some o := hO.heap h (fun c => c)
set_option maxRecDepth 100000 in
set_option maxHeartbeats 2000000 in
theorem mto_any {id : Int} {p i r s : Nat} (hF : Fld id p i r s) (a : Nat) (ha : a < R256) (w : World) : Calls Tryd.prog 38 #[FV id p i r s, V a] w fun e w' => e = .returned (V (fm p (a % p))) ∧ Off (fun _ => False) w w' := by
  have hsp : s < p := by rw [hF.ss]; exact Nat.mod_lt _ hF.mp.pos
  have HC := Lib.hid (fun W => by have h := mmul_any hF a s ha hsp W; rw [show mm p a s = fm p (a % p) by rw [hF.ss]; exact mm_square hF.mp a] at h; exact h)
  obtain ⟨x, hx⟩ : ∃ x, x = fm p (a % p) := ⟨_, rfl⟩
  rw [← hx] at HC ⊢
  clear hF ha hsp hx
  go_enter Tryd.func38, Tryd.ntmps38
  go_wp2_with fail
  refine (HC.out _).mono ?_
  rintro e u1 ⟨rfl, hO⟩
  have hR : u1.heap[w.heap.size + 1 + 1]? = some (.cells #[.int .u64 0, .int .u64 0, .int .u64 0, .int .u64 0] 28) := hO.heap (heap_new' (by simp) _) (fun c => c)
  obtain ⟨⟨r0, r1, r2, r3⟩, fz, lt⟩ := zero_cells hR
  have HO := Lib.hid (((((Off.refl _ w).alloc _).alloc _).alloc _).trans hO (fun _ _ c => c))
  clear hR hO
  go_wp2
  refine bodyPost_ret (v := V x) (by simp [results, Tryd.results38, go_sem, r0, r1, r2, r3]) rfl ⟨rfl, ?_⟩
  exact off4 HO.out (by omega) _ _ _ _
set_option maxRecDepth 100000 in
set_option maxHeartbeats 2000000 in
theorem mfrom_any {id : Int} {p i r s : Nat} (hF : Fld id p i r s) (u : Nat) (hu : u < p) (w : World) : Calls Tryd.prog 51 #[FV id p i r s, V u] w fun e w' => e = .returned (V (mm p u 1)) ∧ Off (fun _ => False) w w' := by
  have hp := hF.mp.lt
  have h1 := hF.mp.one
  have HC := Lib.hid (fun W => by have h := mmul_any hF u 1 (by omega) h1 W; rw [lit_small 1 (by decide)] at h; exact h)
  obtain ⟨x, hx⟩ : ∃ x, x = mm p u 1 := ⟨_, rfl⟩
  rw [← hx] at HC ⊢
  clear hF hu hp h1 hx
  go_enter Tryd.func51, Tryd.ntmps51
  go_wp2_with fail
  refine (HC.out _).mono ?_
  rintro e u1 ⟨rfl, hO⟩
  have hR : u1.heap[w.heap.size + 1 + 1]? = some (.cells #[.int .u64 0, .int .u64 0, .int .u64 0, .int .u64 0] 27) := hO.heap (heap_new' (by simp) _) (fun c => c)
  obtain ⟨⟨r0, r1, r2, r3⟩, fz, lt⟩ := zero_cells hR
  have HO := Lib.hid (((((Off.refl _ w).alloc _).alloc _).alloc _).trans hO (fun _ _ c => c))
  clear hR hO
  go_wp2
  refine bodyPost_ret (v := V x) (by simp [results, Tryd.results51, go_sem, r0, r1, r2, r3]) rfl ⟨rfl, ?_⟩
  exact off4 HO.out (by omega) _ _ _ _
end Go.Proofs.YtllhfkcgocbblaaDoor
