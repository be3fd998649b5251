/-
  Contracts of the methods Contains and Subtract of a field (package sharecore/field) over this seat's translation. Conditions: the numbers lie below 2^256; the word is a word.
-/
import Derived.Test.YtmokaikofcbboaaDoorModGet
import Derived.Test.YtmokaikofcbboaaDoorLimbOpen
namespace Go.Proofs.YtmokaikofcbboaaDoor
open Go.RowKit

attribute [local go_sem ↓] Go.wp_at_zero Go.wp_at_succ
set_option maxRecDepth 100000 in
set_option maxHeartbeats 1000000 in
theorem contains_any (id : Int) (p i r s a : Nat) (hp : p < R256) (ha : a < R256) (w : World) :
    Calls Tryd.prog 37 #[FV id p i r s, V a] w fun e w' => e = .returned (.int .u64 (mk (lessN a p))) ∧ Off (fun _ => False) w w' := by
  have HL := Lib.hid (fun W => limb_less a p ha hp W)
  obtain ⟨c, hc⟩ : ∃ c, c = lessN a p := ⟨_, rfl⟩
  rw [← hc] at HL ⊢
  clear ha hp hc
  go_enter Tryd.func37, Tryd.ntmps37
  go_wp2_with fail
  refine (HL.out _).mono ?_
  rintro e w1 ⟨rfl, hO⟩
  have HO := Lib.hid hO
  clear hO
  go_wp2
  go_ret
  exact ⟨rfl, (((Off.refl _ w).alloc _).alloc _).trans HO.out (fun _ _ c => c)⟩
end Go.Proofs.YtmokaikofcbboaaDoor
