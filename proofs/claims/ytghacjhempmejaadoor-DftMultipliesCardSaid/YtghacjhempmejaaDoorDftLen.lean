/-
  math/bits.Len of small numbers. Condition: the number is less than 128.
-/
import Derived.Test.YtghacjhempmejaaDoorDftOwn
namespace Go.Proofs.YtghacjhempmejaaDoor
open Go.RowKit Ieee
set_option maxRecDepth 100000
set_option maxHeartbeats 4000000
/-- How many binary digits a number below 128 has. -/
def lenN (x : Nat) : Nat := if x < 1 then 0 else if x < 2 then 1 else if x < 4 then 2 else if x < 8 then 3 else if x < 16 then 4 else if x < 32 then 5 else if x < 64 then 6 else 7
theorem lenN_le (x : Nat) : lenN x ≤ 7 := by unfold lenN; (repeat' split) <;> omega
theorem lenN_lt {x : Nat} (h : x < 128) : x < pw (lenN x) := by
  have : (List.range 128).all (fun x => decide (x < pw (lenN x))) = true := by decide +kernel
  simpa using List.all_eq_true.1 this x (List.mem_range.2 h)
theorem len64_any (x : Nat) (hx : x < 128) (w : World) :
    Calls Tryd.prog 30 #[.int .u64 (x : Int)] w fun e w' => e = .returned (.int .i64 ((lenN x : Nat) : Int)) ∧ w = w' := by
  have h1 : ¬ (4294967296 : Int) ≤ x := by omega
  have h2 : ¬ (65536 : Int) ≤ x := by omega
  have h3 : ¬ (256 : Int) ≤ x := by omega
  have hu : IntKind.u8.wrap (x : Int) = x := by rw [IntKind.wrap_u8]; omega
  go_enter Tryd.func30, Tryd.ntmps30
  go_wp2
  go_ret
  refine ⟨?_, rfl⟩
  simp only [Array.getD_eq_getD_getElem?, List.getElem?_toArray, List.getElem?_cons_succ, List.getElem?_cons_zero, Option.getD_some]
  congr 2
  clear h1 h2 hu
  obtain ⟨y, rfl⟩ : ∃ y : Fin 128, x = y.val := ⟨⟨x, hx⟩, rfl⟩
  clear hx
  revert h3
  revert y
  decide +kernel
theorem len_any (x : Nat) (hx : x < 128) (w : World) :
    Calls Tryd.prog 22 #[.int .u64 (x : Int)] w fun e w' => e = .returned (.int .i64 ((lenN x : Nat) : Int)) ∧ w = w' := by
  have hS := len64_any x hx
  go_enter Tryd.func22, Tryd.ntmps22
  go_wp2_with first | (go_at_call 30; refine (hS _).mono ?_; rintro e w' ⟨rfl, rfl⟩) | fail
  go_ret
  exact ⟨rfl, rfl⟩
end Go.Proofs.YtghacjhempmejaaDoor
