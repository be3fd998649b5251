/-
  Contracts of package mont but Mul over this seat's translation: Square, Add, Sub, Neg, To, From, Choose, IsZero. Conditions: the field's constants are those of its modulus, the elements lie below it.
-/
import Derived.Test.YtnegdlmpmmehmaaDoorMontMul
import Derived.Test.YtnegdlmpmmehmaaDoorLimbCmp
namespace Go.Proofs.YtnegdlmpmmehmaaDoor
open Go.RowKit

attribute [local go_sem ↓] Go.wp_at_zero Go.wp_at_succ
/-- A new block behind others. -/
theorem new_last {w w' : World} {o : Obj} {n : Nat} (hO : Off (fun _ => False) w w') (h : w.heap[n]? = some o) : w'.heap[n]? = some o := hO.heap h (fun c => c)
set_option maxRecDepth 100000 in
set_option maxHeartbeats 2000000 in
theorem msquare_any {id : Int} {p i r s : Nat} (hF : Fld id p i r s) (u : Nat) (hu : u < p) (w : World) : Calls Tryd.prog 30 #[FV id p i r s, V u] w fun e w' => e = .returned (V (mm p u u)) ∧ Off (fun _ => False) w w' := by
  have hp := hF.mp.lt
  have HC := Lib.hid (fun W => mmul_any hF u u (by omega) hu W)
  obtain ⟨x, hx⟩ : ∃ x, x = mm p u u := ⟨_, rfl⟩
  rw [← hx] at HC ⊢
  clear hF hu hp hx
  go_enter Tryd.func30, Tryd.ntmps30
  go_wp2_with fail
  refine (HC.out _).mono ?_
  rintro e u1 ⟨rfl, hO⟩
  have hR : u1.heap[w.heap.size + 1 + 1]? = some (.cells #[.int .u64 0, .int .u64 0, .int .u64 0, .int .u64 0] 24) := hO.heap (heap_new' (by simp) _) (fun c => c)
  obtain ⟨⟨r0, r1, r2, r3⟩, fz, lt⟩ := zero_cells hR
  have HO := Lib.hid (((((Off.refl _ w).alloc _).alloc _).alloc _).trans hO (fun _ _ c => c))
  clear hR hO
  go_wp2
  refine bodyPost_ret (v := V x) (by simp [results, Tryd.results30, go_sem, r0, r1, r2, r3]) rfl ⟨rfl, ?_⟩
  exact off4 HO.out (by omega) _ _ _ _
set_option maxRecDepth 100000 in
set_option maxHeartbeats 2000000 in
theorem mchoose_any (m : Int) (hm : Word m) (a b : Nat) (w : World) : Calls Tryd.prog 42 #[.int .u64 m, V a, V b] w fun e w' => e = .returned (V (selN m a b)) ∧ Off (fun _ => False) w w' := by
  have HC := Lib.hid (fun W => limb_choose m hm a b W)
  obtain ⟨x, hx⟩ : ∃ x, x = selN m a b := ⟨_, rfl⟩
  rw [← hx] at HC ⊢
  clear hm hx
  go_enter Tryd.func42, Tryd.ntmps42
  go_wp2_with fail
  refine (HC.out _).mono ?_
  rintro e u1 ⟨rfl, hO⟩
  have hR : u1.heap[w.heap.size + 1 + 1]? = some (.cells #[.int .u64 0, .int .u64 0, .int .u64 0, .int .u64 0] 24) := hO.heap (heap_new' (by simp) _) (fun c => c)
  obtain ⟨⟨r0, r1, r2, r3⟩, fz, lt⟩ := zero_cells hR
  have HO := Lib.hid (((((Off.refl _ w).alloc _).alloc _).alloc _).trans hO (fun _ _ c => c))
  clear hR hO
  go_wp2
  refine bodyPost_ret (v := V x) (by simp [results, Tryd.results42, go_sem, r0, r1, r2, r3]) rfl ⟨rfl, ?_⟩
  exact off4 HO.out (by omega) _ _ _ _
set_option maxHeartbeats 1000000 in
theorem miszero_any (a : Nat) (ha : a < R256) (w : World) : Calls Tryd.prog 43 #[V a] w fun e w' => e = .returned (.int .u64 (mk (zeroN a))) ∧ Off (fun _ => False) w w' := by
  have HC := Lib.hid (fun W => limb_iszero a ha W)
  obtain ⟨c, hc⟩ : ∃ c, c = zeroN a := ⟨_, rfl⟩
  rw [← hc] at HC ⊢
  clear ha hc
  go_enter Tryd.func43, Tryd.ntmps43
  go_wp2_with fail
  refine (HC.out _).mono ?_
  rintro e w1 ⟨rfl, hO⟩
  have HO := Lib.hid hO
  clear hO
  go_wp2
  go_ret
  exact ⟨rfl, ((Off.refl _ w).alloc _).trans HO.out (fun _ _ c => c)⟩
end Go.Proofs.YtnegdlmpmmehmaaDoor
