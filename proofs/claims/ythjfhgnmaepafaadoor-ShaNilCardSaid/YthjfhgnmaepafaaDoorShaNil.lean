/-
  Contracts of Write, Len and Clone of a nil hash over this seat's translation. No condition.
-/
import Derived.Test.YthjfhgnmaepafaaDoorShaAlive
namespace Go.Proofs.YthjfhgnmaepafaaDoor
open Go.RowKit
set_option maxRecDepth 100000
set_option maxHeartbeats 4000000
theorem len_nil (w : World) : Calls Tryd.prog 17 #[.pointer none] w fun e w' => e = .returned (.int .i64 0) ∧ Off (fun _ => False) w w' := by
  go_enter Tryd.func17, Tryd.ntmps17
  go_wp2
  go_ret
  exact ⟨rfl, Off.refl _ w⟩
theorem write_nil (a : Option Addr) (n cap : Nat) (w : World) : Calls Tryd.prog 15 #[.pointer none, .slice a n cap] w fun e w' => e = .returned (.tuple #[]) ∧ Off (fun _ => False) w w' := by
  go_enter Tryd.func15, Tryd.ntmps15
  go_wp2
  first | (go_end0; exact ⟨rfl, Off.refl _ w⟩) | (refine bodyPost_ret (results_none rfl _ _ _) rfl ?_; exact ⟨rfl, Off.refl _ w⟩)
theorem clone_nil (w : World) : Calls Tryd.prog 18 #[.pointer none] w fun e w' => e = .returned (.pointer none) ∧ Off (fun _ => False) w w' := by
  go_enter Tryd.func18, Tryd.ntmps18
  go_wp2
  go_ret
  exact ⟨rfl, Off.refl _ w⟩
end Go.Proofs.YthjfhgnmaepafaaDoor
