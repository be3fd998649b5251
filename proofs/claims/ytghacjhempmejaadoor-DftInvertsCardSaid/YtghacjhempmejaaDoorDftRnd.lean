/-
  math.Round: a word made whole. Condition: the number is small.
-/
import Derived.Test.YtghacjhempmejaaDoorDftOwn
import Derived.Test.YtghacjhempmejaaDoorFltAll
import Derived.Laws.Externs
namespace Go.Proofs.YtghacjhempmejaaDoor
open Go.RowKit Ieee
set_option maxRecDepth 100000
set_option maxHeartbeats 4000000
@[local go_sem] theorem call_bits2 (x : Nat) (W : World) : (callFunc 36 #[.float .f64 x]).run Tryd.prog W = .ok (.value (.int .u64 (x : Int))) W := by
  rw [run_callFunc_extern Tryd.func36 (by kernel_rfl) (by kernel_rfl) (by kernel_rfl) (e := Extern.MathFloatBits.float64bits) (by kernel_rfl)]; rfl
@[local go_sem] theorem call_from2 (n : Int) (W : World) : (callFunc 37 #[.int .u64 n]).run Tryd.prog W = .ok (.value (.float .f64 n.toNat)) W := by
  rw [run_callFunc_extern Tryd.func37 (by kernel_rfl) (by kernel_rfl) (by kernel_rfl) (e := Extern.MathFloatBits.float64frombits) (by kernel_rfl)]; rfl
theorem round_any (x : Nat) (w : World) :
    Calls Tryd.prog 31 #[.float .f64 x] w fun e w' => e = .returned (.float .f64 (roundW x)) ∧ w = w' := by
  obtain ⟨E, hE⟩ : ∃ E, E = rndE x := ⟨_, rfl⟩
  obtain ⟨z, hz⟩ : ∃ z, z = roundW x := ⟨_, rfl⟩
  rw [← hz]
  have e1 : bits BinOp.and IntKind.u64 ((x : Int) / 4503599627370496) 2047 = E := hE.symm
  unfold roundW rndMid at hz
  rw [← hE] at hz
  by_cases c1 : E < 1023
  · rw [if_pos c1] at hz
    by_cases c2 : E = 1022
    · rw [if_pos c2] at hz
      have HZ := Lib.hid hz
      have b1 : (E == 1022) = true := by simp [c2]
      clear hz hE
      go_enter Tryd.func31, Tryd.ntmps31
      go_wp2
      go_ret
      exact ⟨by rw [HZ.out]; rfl, rfl⟩
    · rw [if_neg c2] at hz
      have HZ := Lib.hid hz
      have b1 : (E == 1022) = false := by simp [c2]
      clear hz hE c2
      go_enter Tryd.func31, Tryd.ntmps31
      go_wp2
      go_ret
      exact ⟨by rw [HZ.out]; rfl, rfl⟩
  · rw [if_neg c1] at hz
    by_cases c2 : E < 1075
    · rw [if_pos c2] at hz
      have HZ := Lib.hid hz
      clear hz hE
      go_enter Tryd.func31, Tryd.ntmps31
      go_wp2
      go_ret
      exact ⟨by rw [HZ.out]; rfl, rfl⟩
    · rw [if_neg c2] at hz
      have HZ := Lib.hid hz
      clear hz hE
      go_enter Tryd.func31, Tryd.ntmps31
      go_wp2
      go_ret
      exact ⟨by rw [HZ.out]; rfl, rfl⟩
end Go.Proofs.YtghacjhempmejaaDoor
