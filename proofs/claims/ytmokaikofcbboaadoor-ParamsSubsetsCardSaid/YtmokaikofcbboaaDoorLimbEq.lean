/-
  Two numbers of four words as '==' compares them, and some numbers written out. Conditions: as each says.
-/
import Derived.Test.YtmokaikofcbboaaDoorLimbCmp
import Derived.ChangeKeysEq
namespace Go.Proofs.YtmokaikofcbboaaDoor
open Go.RowKit

theorem word_info : (Tryd.prog.info? 44).map (fun i => (i.zero, i.size, i.bytes)) = some (some (.int .u64 0), 1, 8) := by kernel_rfl
theorem equalIn_four (a b c d a' b' c' d' : Int) (w : World) : (Op.equalIn 10000 45 (.agg #[.int .u64 a, .int .u64 b, .int .u64 c, .int .u64 d]) (.agg #[.int .u64 a', .int .u64 b', .int .u64 c', .int .u64 d'])).run Tryd.prog w =
    .ok (decide (a = a' ∧ b = b' ∧ c = c' ∧ d = d')) w := by
  obtain ⟨i, hi, _, _, _⟩ := info_parts word_info
  have hc : Tryd.prog.cellsOf 44 = 1 := by kernel_rfl
  rw [run_equalIn_array w 9999 _ _ Tryd.underlying45 hi, hc]
  have hr : List.range 4 = [0, 1, 2, 3] := by decide
  rw [hr]
  simp [Op.eqItems, part, go_sem]
  by_cases h1 : a = a' <;> by_cases h2 : b = b' <;> by_cases h3 : c = c' <;> by_cases h4 : d = d' <;> simp [h1, h2, h3, h4]
theorem eql_four (a b c d a' b' c' d' : Int) (w : World) : (binOp .eql 45 (.agg #[.int .u64 a, .int .u64 b, .int .u64 c, .int .u64 d]) (.agg #[.int .u64 a', .int .u64 b', .int .u64 c', .int .u64 d'])).run Tryd.prog w =
    .ok (.bool (decide (a = a' ∧ b = b' ∧ c = c' ∧ d = d'))) w := by
  rw [run_eql_struct, equalIn_four]; rfl
theorem four_eq {a b : Nat} (ha : a < R256) (hb : b < R256) : decide ((wd a 0 : Int) = (wd b 0 : Int) ∧ (wd a 1 : Int) = (wd b 1 : Int) ∧ (wd a 2 : Int) = (wd b 2 : Int) ∧ (wd a 3 : Int) = (wd b 3 : Int)) = eqN a b := by
  unfold eqN
  rw [decide_eq_decide]
  constructor
  · rintro ⟨h0, h1, h2, h3⟩
    refine wd_ext ha hb (fun i hi => ?_)
    have : i = 0 ∨ i = 1 ∨ i = 2 ∨ i = 3 := by omega
    rcases this with rfl | rfl | rfl | rfl <;> omega
  · rintro rfl
    exact ⟨rfl, rfl, rfl, rfl⟩
theorem eql_num {a b : Nat} (ha : a < R256) (hb : b < R256) (w : World) : (binOp .eql 45 (V a) (V b)).run Tryd.prog w = .ok (.bool (eqN a b)) w := by
  rw [← four_eq ha hb]; exact eql_four _ _ _ _ _ _ _ _ w
theorem equalIn_num {a b : Nat} (ha : a < R256) (hb : b < R256) (w : World) : (Op.equalIn 10000 45 (V a) (V b)).run Tryd.prog w = .ok (eqN a b) w := by
  rw [← four_eq ha hb]; exact equalIn_four _ _ _ _ _ _ _ _ w
theorem eql_same (a : Nat) (w : World) : (binOp .eql 45 (V a) (V a)).run Tryd.prog w = .ok (.bool true) w := by
  rw [eql_four]; simp

theorem lit_all : V (R256 - 1) = .agg #[.int .u64 18446744073709551615, .int .u64 18446744073709551615, .int .u64 18446744073709551615, .int .u64 18446744073709551615] := by
  have h : ∀ i, i < 4 → wd (R256 - 1) i = 18446744073709551615 := by decide
  simp only [V, h 0 (by omega), h 1 (by omega), h 2 (by omega), h 3 (by omega)]; rfl
theorem lit_small (n : Nat) (hn : n < 18446744073709551616) : V n = .agg #[.int .u64 (n : Int), .int .u64 0, .int .u64 0, .int .u64 0] := by
  have h0 : wd n 0 = n := by unfold wd dg W64; omega
  have h1 : wd n 1 = 0 := by unfold wd dg W64; omega
  have h2 : wd n 2 = 0 := by unfold wd dg W64; omega
  have h3 : wd n 3 = 0 := by unfold wd dg W64; omega
  simp only [V, h0, h1, h2, h3]; rfl
theorem lit_top : V (2 ^ 255) = .agg #[.int .u64 0, .int .u64 0, .int .u64 0, .int .u64 9223372036854775808] := by
  have h : wd (2 ^ 255) 0 = 0 ∧ wd (2 ^ 255) 1 = 0 ∧ wd (2 ^ 255) 2 = 0 ∧ wd (2 ^ 255) 3 = 9223372036854775808 := by decide
  simp only [V, h.1, h.2.1, h.2.2.1, h.2.2.2]; rfl
end Go.Proofs.YtmokaikofcbboaaDoor
