/-
  The statements' own form and get of layer 8 over this seat's translation. Conditions: the table of fields lies in memory as it was laid; the numbers are numbers of four words.
-/
import Derived.Test.YtllhfkcgocbblaaDoorFieldGet
import Derived.Test.YtllhfkcgocbblaaDoorMontRef
namespace Go.Proofs.YtllhfkcgocbblaaDoor
open Go.RowKit
attribute [local go_sem ↓] Go.wp_at_zero Go.wp_at_succ
set_option maxHeartbeats 1000000 in
theorem form8_any (p v : Nat) (hp : p < R256) (h1 : 1 < p) (hv : v < R256) (w : World) :
    Calls Tryd.prog 32 #[V p, V v] w fun e w' => e = .returned (V (fm p v)) ∧ Off (fun _ => False) w w' := by
  have FF := Lib.hid (fun W => form_any p v hp h1 hv W)
  obtain ⟨m, hm⟩ : ∃ m, m = fm p v := ⟨_, rfl⟩
  rw [← hm] at FF ⊢
  clear hp h1 hv hm
  go_enter Tryd.func32, Tryd.ntmps32
  go_wp2_with fail
  refine (FF.out _).mono ?_
  rintro e u ⟨rfl, hO⟩
  have hR : u.heap[w.heap.size + 1 + 1]? = some (.cells #[.int .u64 0, .int .u64 0, .int .u64 0, .int .u64 0] 28) := hO.heap (heap_new' (by simp) _) (fun c => c)
  obtain ⟨⟨r0, r1, r2, r3⟩, fz, lt⟩ := zero_cells hR
  have HO := Lib.hid ((((Off.refl _ w).alloc _).alloc _).alloc _ |>.trans hO (fun _ _ c => c))
  clear hR hO
  go_wp2
  refine bodyPost_ret (v := V m) (by simp [results, Tryd.results32, go_sem, r0, r1, r2, r3]) rfl ⟨rfl, ?_⟩
  exact off4 HO.out (by omega) _ _ _ _
end Go.Proofs.YtllhfkcgocbblaaDoor
