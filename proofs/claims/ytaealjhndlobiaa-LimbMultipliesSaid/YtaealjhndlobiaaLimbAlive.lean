/-
  Two numbers of four words as '==' compares them; the reference's Less; the examples of layer 3's chapter hold: the function 'alive' of its statements returns true and changes nothing that lay in memory before. Conditions: as each says.
-/
import Derived.Test.YtaealjhndlobiaaLimbMul
import Derived.Test.YtaealjhndlobiaaLimbCmp
import Derived.Test.YtaealjhndlobiaaLimbBits
import Derived.Test.YtaealjhndlobiaaLimbRefMul
import Derived.ChangeKeysEq
namespace Go.Proofs.Ytaealjhndlobiaa
open Go.RowKit

theorem word_info : (Try.prog.info? 22).map (fun i => (i.zero, i.size, i.bytes)) = some (some (.int .u64 0), 1, 8) := by kernel_rfl
theorem eql_four (a b c d a' b' c' d' : Int) (w : World) : (binOp .eql 23 (.agg #[.int .u64 a, .int .u64 b, .int .u64 c, .int .u64 d]) (.agg #[.int .u64 a', .int .u64 b', .int .u64 c', .int .u64 d'])).run Try.prog w =
    .ok (.bool (decide (a = a' ∧ b = b' ∧ c = c' ∧ d = d'))) w := by
  obtain ⟨i, hi, _, _, _⟩ := info_parts word_info
  have hc : Try.prog.cellsOf 22 = 1 := by kernel_rfl
  rw [run_eql_struct, run_equalIn_array w 9999 _ _ Try.underlying23 hi, hc]
  have hr : List.range 4 = [0, 1, 2, 3] := by decide
  rw [hr]
  simp [Op.eqItems, part, go_sem]
  by_cases h1 : a = a' <;> by_cases h2 : b = b' <;> by_cases h3 : c = c' <;> by_cases h4 : d = d' <;> simp [h1, h2, h3, h4]
theorem four_eq {a b : Nat} (ha : a < R256) (hb : b < R256) : decide ((wd a 0 : Int) = (wd b 0 : Int) ∧ (wd a 1 : Int) = (wd b 1 : Int) ∧ (wd a 2 : Int) = (wd b 2 : Int) ∧ (wd a 3 : Int) = (wd b 3 : Int)) = eqN a b := by
  unfold eqN
  rw [decide_eq_decide]
  constructor
  · rintro ⟨h0, h1, h2, h3⟩
    refine wd_ext ha hb (fun i hi => ?_)
    have : i = 0 ∨ i = 1 ∨ i = 2 ∨ i = 3 := by omega
    rcases this with rfl | rfl | rfl | rfl <;> omega
  · rintro rfl
    exact ⟨rfl, rfl, rfl, rfl⟩
theorem eql_num {a b : Nat} (ha : a < R256) (hb : b < R256) (w : World) : (binOp .eql 23 (V a) (V b)).run Try.prog w = .ok (.bool (eqN a b)) w := by
  rw [← four_eq ha hb]; exact eql_four _ _ _ _ _ _ _ _ w
theorem eql_same (a : Nat) (w : World) : (binOp .eql 23 (V a) (V a)).run Try.prog w = .ok (.bool true) w := by
  rw [eql_four]; simp

theorem lit_all : V (R256 - 1) = .agg #[.int .u64 18446744073709551615, .int .u64 18446744073709551615, .int .u64 18446744073709551615, .int .u64 18446744073709551615] := by
  have h : ∀ i, i < 4 → wd (R256 - 1) i = 18446744073709551615 := by decide
  simp only [V, h 0 (by omega), h 1 (by omega), h 2 (by omega), h 3 (by omega)]; rfl
theorem lit_small (n : Nat) (hn : n < 18446744073709551616) : V n = .agg #[.int .u64 (n : Int), .int .u64 0, .int .u64 0, .int .u64 0] := by
  have h0 : wd n 0 = n := by unfold wd dg W64; omega
  have h1 : wd n 1 = 0 := by unfold wd dg W64; omega
  have h2 : wd n 2 = 0 := by unfold wd dg W64; omega
  have h3 : wd n 3 = 0 := by unfold wd dg W64; omega
  simp only [V, h0, h1, h2, h3]; rfl
theorem lit_top : V (2 ^ 255) = .agg #[.int .u64 0, .int .u64 0, .int .u64 0, .int .u64 9223372036854775808] := by
  have h : wd (2 ^ 255) 0 = 0 ∧ wd (2 ^ 255) 1 = 0 ∧ wd (2 ^ 255) 2 = 0 ∧ wd (2 ^ 255) 3 = 9223372036854775808 := by decide
  simp only [V, h.1, h.2.1, h.2.2.1, h.2.2.2]; rfl

theorem alive_add (w : World) : Calls Try.prog 9 #[.agg #[.int .u64 18446744073709551615, .int .u64 18446744073709551615, .int .u64 18446744073709551615, .int .u64 18446744073709551615], .agg #[.int .u64 1, .int .u64 0, .int .u64 0, .int .u64 0]] w fun e w' =>
    e = .returned (.tuple #[.agg #[.int .u64 0, .int .u64 0, .int .u64 0, .int .u64 0], .int .u64 1]) ∧ Off (fun _ => False) w w' := by
  have h := add_any (R256 - 1) 1 (by decide) (by decide) w
  have e : V (R256 - 1 + 1) = V 0 := by rw [← V_mod, show (R256 - 1 + 1) % R256 = 0 by decide]
  have f : (R256 - 1 + 1) / R256 = 1 := by decide
  rw [e, f, lit_all, lit_small 1 (by decide), lit_small 0 (by decide)] at h
  exact h
theorem alive_mul (w : World) : Calls Try.prog 14 #[.agg #[.int .u64 0, .int .u64 0, .int .u64 0, .int .u64 9223372036854775808], .agg #[.int .u64 4, .int .u64 0, .int .u64 0, .int .u64 0]] w fun e w' =>
    e = .returned (.tuple #[.agg #[.int .u64 0, .int .u64 0, .int .u64 0, .int .u64 0], .agg #[.int .u64 2, .int .u64 0, .int .u64 0, .int .u64 0]]) ∧ Off (fun _ => False) w w' := by
  have h := mul_any (2 ^ 255) 4 (by decide) w
  have e : V (2 ^ 255 % R256 * 4) = V 0 := by rw [← V_mod, show (2 ^ 255 % R256 * 4) % R256 = 0 by decide]
  have f : 2 ^ 255 % R256 * 4 / R256 = 2 := by decide
  rw [e, f, lit_top, lit_small 4 (by decide), lit_small 0 (by decide), lit_small 2 (by decide)] at h
  exact h
theorem alive_bits (w : World) : Calls Try.prog 22 #[.agg #[.int .u64 4660, .int .u64 0, .int .u64 0, .int .u64 0], .int .i64 4, .int .i64 8] w fun e w' =>
    e = .returned (.int .u64 35) ∧ Off (fun _ => False) w w' := by
  have h := bits_any 4660 (by decide) 4 8 w
  rw [lit_small 4660 (by decide), show bitsV 4660 4 8 = 35 by decide] at h
  exact h

set_option maxHeartbeats 1000000 in
theorem alive_any (w : World) :
    Calls Try.prog 13 #[] w fun e w' => e = .returned (.bool true) ∧ Off (fun _ => False) w w' := by
  have hq := fun a b c d a' b' c' d' w => eql_four a b c d a' b' c' d' w
  go_enter Try.func13, Try.ntmps13
  go_wp2_with fail
  refine (alive_add _).mono ?_
  rintro e w1 ⟨rfl, hO1⟩
  have HO1 := Lib.hid hO1
  clear hO1
  go_wp2_with fail
  refine (alive_mul _).mono ?_
  rintro e w2 ⟨rfl, hO2⟩
  have hZ : PartAt w2 w1.heap.size 0 0 := hO2.heap (heap_new' rfl _) (fun c => c)
  have hlt := heap_lt hZ.old
  obtain ⟨⟨z0, z1, z2, z3⟩, _⟩ := hZ.four
  have HO2 := Lib.hid ((HO1.out.alloc _).trans hO2 (fun _ _ c => c))
  clear hO2 hZ
  go_wp2_with fail
  refine (alive_bits _).mono ?_
  rintro e w3 ⟨rfl, hO3⟩
  have HO3 := Lib.hid (((HO2.out.alloc _).alloc _).trans hO3 (fun _ _ c => c))
  clear hO3
  go_wp2
  go_ret
  exact ⟨rfl, HO3.out⟩
end Go.Proofs.Ytaealjhndlobiaa
