/-
  Contracts of limb.Bits and of the reference's Bit and Bits over this seat's translation: the bits of a number from a position on. Conditions: the number has four words.
-/
import Derived.Test.YtmokaikofcbboaaDoorLimbOps
namespace Go.Proofs.YtmokaikofcbboaaDoor
open Go.RowKit

/-- The n bits of a from the bit number p on. -/
def bitsV (a : Nat) (p n : Int) : Nat := if p < 0 ∨ n < 0 ∨ 64 < n then 0 else a / 2 ^ p.toNat % 2 ^ n.toNat

theorem wd_bit (a q j : Nat) : (wd a q).testBit j = (decide (j < 64) && a.testBit (64 * q + j)) := by
  have e : (18446744073709551616 : Nat) = 2 ^ 64 := by decide
  unfold wd dg W64
  rw [e, ← Nat.pow_mul, Nat.testBit_mod_two_pow, Nat.testBit_div_two_pow, Nat.add_comm]
theorem wd_top {a : Nat} (ha : a < R256) : wd a 4 = 0 := dg_zero_of_lt ha

theorem mask_ones {n : Nat} (hn : n ≤ 64) : IntKind.u64.wrap (IntKind.u64.wrap (2 ^ n) - 1) = ((2 ^ n - 1 : Nat) : Int) := by
  have hp : 1 ≤ 2 ^ n := Nat.one_le_two_pow
  have he : ((2 : Int) ^ n) = ((2 ^ n : Nat) : Int) := by simp
  have hle : 2 ^ n ≤ 2 ^ 64 := Nat.pow_le_pow_right (by decide) hn
  rw [IntKind.wrap_u64, IntKind.wrap_u64, he]
  generalize 2 ^ n = m at *
  simp only [Nat.reducePow] at hle
  omega
theorem low_high (a q r i : Nat) (hr : r < 64) (hi : i < 64) :
    (wd a q / 2 ^ r ||| wd a (q + 1) * 2 ^ (64 - r) % 2 ^ 64).testBit i = a.testBit (64 * q + r + i) := by
  rw [Nat.testBit_or, Nat.testBit_div_two_pow, wd_bit, Nat.testBit_mod_two_pow, Nat.mul_comm (wd a (q + 1)) (2 ^ (64 - r)), Nat.testBit_two_pow_mul, wd_bit]
  by_cases h : r + i < 64
  · have h1 : ¬ (64 - r ≤ i) := by omega
    have e : 64 * q + (i + r) = 64 * q + r + i := by omega
    simp [h1, e]
    omega
  · have h1 : 64 - r ≤ i := by omega
    have h2 : ¬ (i + r < 64) := by omega
    have h3 : i - (64 - r) < 64 := by omega
    have e : 64 * (q + 1) + (i - (64 - r)) = 64 * q + r + i := by omega
    simp [h1, h2, h3, hi, e]
theorem bits_math (a q r n : Nat) (hr : r < 64) (hn : n ≤ 64) :
    bits .and .u64 (bits .or .u64 ((wd a q : Int) / 2 ^ r) (IntKind.u64.wrap ((wd a (q + 1) : Int) * 2 ^ (64 - r)))) (IntKind.u64.wrap (IntKind.u64.wrap (2 ^ n) - 1)) = ((a / 2 ^ (64 * q + r) % 2 ^ n : Nat) : Int) := by
  rw [mask_ones hn]
  have e1 : (wd a q : Int) / 2 ^ r = ((wd a q / 2 ^ r : Nat) : Int) := by simp
  have e2 : IntKind.u64.wrap ((wd a (q + 1) : Int) * 2 ^ (64 - r)) = ((wd a (q + 1) * 2 ^ (64 - r) % 2 ^ 64 : Nat) : Int) := by
    rw [IntKind.wrap_u64]; simp
  have l1 : wd a q / 2 ^ r < 18446744073709551616 := Nat.lt_of_le_of_lt (Nat.div_le_self _ _) (wd_lt a q)
  have l2 : wd a (q + 1) * 2 ^ (64 - r) % 2 ^ 64 < 18446744073709551616 := Nat.mod_lt _ (by decide)
  have l3 : 2 ^ n - 1 < 18446744073709551616 := by
    have hle : 2 ^ n ≤ 2 ^ 64 := Nat.pow_le_pow_right (by decide) hn
    have e : (2 : Nat) ^ 64 = 18446744073709551616 := by decide
    rw [e] at hle
    have hp : 1 ≤ 2 ^ n := Nat.one_le_two_pow
    generalize 2 ^ n = m at *
    omega
  rw [e1, e2]
  have hL : ∀ L H M : Nat, L < 18446744073709551616 → H < 18446744073709551616 → M < 18446744073709551616 → bits .and .u64 (bits .or .u64 (L : Int) (H : Int)) (M : Int) = (((L ||| H) &&& M : Nat) : Int) := by
    intro L H M h1 h2 h3
    rw [u64_or _ _ (by omega) (by omega) (by omega) (by omega)]
    have l4 := or_lt h1 h2
    simp only [Int.toNat_natCast]
    rw [u64_and _ _ (by omega) (by omega) (by omega) (by omega)]
    simp only [Int.toNat_natCast]
  rw [hL _ _ _ l1 l2 l3]
  congr 1
  rw [Nat.and_two_pow_sub_one_eq_mod]
  apply Nat.eq_of_testBit_eq
  intro i
  rw [Nat.testBit_mod_two_pow, Nat.testBit_mod_two_pow]
  by_cases hi : i < n
  · rw [low_high a q r i hr (by omega), Nat.testBit_div_two_pow, Nat.add_comm i]
  · simp [hi]

theorem div_big {a p : Nat} (ha : a < R256) (hp : 256 ≤ p) : a / 2 ^ p = 0 := by
  have e : R256 = 2 ^ 256 := by decide
  exact Nat.div_eq_of_lt (Nat.lt_of_lt_of_le (by rw [← e]; exact ha) (Nat.pow_le_pow_right (by decide) hp))
theorem bitsV_in {a p n : Nat} (hn : n ≤ 64) : bitsV a (p : Int) (n : Int) = a / 2 ^ p % 2 ^ n := by
  unfold bitsV; rw [if_neg (by omega)]; simp
theorem bitsV_out {a : Nat} {p n : Int} (h : p < 0 ∨ n < 0 ∨ 64 < n) : bitsV a p n = 0 := by unfold bitsV; rw [if_pos h]
theorem bitsV_big {a : Nat} (ha : a < R256) {p n : Int} (hp : 256 ≤ p) : bitsV a p n = 0 := by
  unfold bitsV; split
  · rfl
  · rw [div_big ha (by omega), Nat.zero_mod]

/-- The bit with the index i of a. -/
def bitV (a i : Nat) : Nat := a / 2 ^ i % 2
theorem bit_wd (a q r : Nat) (hr : r < 64) : wd a q / 2 ^ r % 2 = bitV a (64 * q + r) := by
  have h := wd_bit a q r
  rw [Nat.testBit_eq_decide_div_mod_eq, Nat.testBit_eq_decide_div_mod_eq] at h
  unfold bitV
  generalize wd a q / 2 ^ r = x at *
  generalize a / 2 ^ (64 * q + r) = y at *
  have h2 : decide (r < 64) = true := by simpa using hr
  rw [h2, Bool.true_and, decide_eq_decide] at h
  omega
theorem half_pow (x k : Nat) : x / 2 ^ k / 2 = x / 2 ^ (k + 1) := by rw [Nat.pow_succ, Nat.div_div_eq_div_mul]

theorem bits_step (a s k : Nat) : a / 2 ^ s % 2 ^ (k + 1) = a / 2 ^ (s + 1) % 2 ^ k * 2 + bitV a s := by
  unfold bitV
  rw [← half_pow, Nat.pow_succ, Nat.mul_comm (2 ^ k) 2, Nat.mod_mul]
  omega
/-- The bits of the reference's loop behind k rounds. -/
def someBits (a p n k : Nat) : Nat := a / 2 ^ (p + (n - k)) % 2 ^ k
theorem someBits_zero (a p n : Nat) : someBits a p n 0 = 0 := by unfold someBits; simp [Nat.mod_one]
theorem someBits_full (a p n : Nat) : someBits a p n n = a / 2 ^ p % 2 ^ n := by unfold someBits; simp
theorem someBits_succ (a p n k : Nat) (hk : k < n) : someBits a p n (k + 1) = someBits a p n k * 2 + bitV a (p + (n - (k + 1))) := by
  unfold someBits
  rw [bits_step, show p + (n - (k + 1)) + 1 = p + (n - k) by omega]
theorem someBits_lt (a p n k : Nat) (hk : k < 64) : someBits a p n k < 9223372036854775808 := by
  have h1 : someBits a p n k < 2 ^ k := Nat.mod_lt _ (Nat.pow_pos (by decide))
  have h2 : 2 ^ k ≤ 2 ^ 63 := Nat.pow_le_pow_right (by decide) (by omega)
  have h3 : (2 : Nat) ^ 63 = 9223372036854775808 := by decide
  omega
theorem someBits_big {a p : Nat} (ha : a < R256) (hp : 256 ≤ p) (n k : Nat) : someBits a p n k = 0 := by
  unfold someBits; rw [div_big ha (by omega), Nat.zero_mod]

end Go.Proofs.YtmokaikofcbboaaDoor
