/-
  '==' of elements and of the structs of a field. No condition.
-/
import Derived.Test.YtmokaikofcbboaaDoorLimbEq
namespace Go.Proofs.YtmokaikofcbboaaDoor
open Go.RowKit

theorem equalIn_elem (a b c d a' b' c' d' : Int) (w : World) : (Op.equalIn 10000 46 (.agg #[.int .u64 a, .int .u64 b, .int .u64 c, .int .u64 d]) (.agg #[.int .u64 a', .int .u64 b', .int .u64 c', .int .u64 d'])).run Tryd.prog w =
    .ok (decide (a = a' ∧ b = b' ∧ c = c' ∧ d = d')) w := by
  obtain ⟨i, hi, _, _, _⟩ := info_parts word_info
  have hc : Tryd.prog.cellsOf 44 = 1 := by kernel_rfl
  rw [run_equalIn_array w 9999 _ _ Tryd.underlying46 hi, hc]
  have hr : List.range 4 = [0, 1, 2, 3] := by decide
  rw [hr]
  simp [Op.eqItems, part, go_sem]
  by_cases h1 : a = a' <;> by_cases h2 : b = b' <;> by_cases h3 : c = c' <;> by_cases h4 : d = d' <;> simp [h1, h2, h3, h4]
theorem equalIn_elem_same (n : Nat) (w : World) : (Op.equalIn 10000 46 (V n) (V n)).run Tryd.prog w = .ok true w := by
  rw [equalIn_elem]; simp
theorem equalIn_same (n : Nat) (w : World) : (Op.equalIn 10000 45 (V n) (V n)).run Tryd.prog w = .ok true w := by
  rw [equalIn_four]; simp
theorem equalIn_none (w : World) : (Op.equalIn 10000 55 (.agg #[.int .i64 0, .int .u64 0, .int .u64 0, .int .u64 0, .int .u64 0, .int .u64 0, .int .u64 0, .int .u64 0, .int .u64 0, .int .u64 0, .int .u64 0, .int .u64 0, .int .u64 0, .int .u64 0])
    (.agg #[.int .i64 0, .int .u64 0, .int .u64 0, .int .u64 0, .int .u64 0, .int .u64 0, .int .u64 0, .int .u64 0, .int .u64 0, .int .u64 0, .int .u64 0, .int .u64 0, .int .u64 0, .int .u64 0])).run Tryd.prog w = .ok true w := by kernel_rfl
end Go.Proofs.YtmokaikofcbboaaDoor
