/-
  Plain arithmetic of numbers of four words: their words, the value that holds them, and their groups of bits. No condition but those that each fact states.
-/
import Derived.Test.YtmokaikofcbboaaDoorDigPlain
import Derived.Test.YtmokaikofcbboaaDoorMaskPlain
namespace Go.Proofs.YtmokaikofcbboaaDoor

/-- The base of words. -/
def W64 : Nat := 18446744073709551616
/-- The word with the index i of n. -/
def wd (n i : Nat) : Nat := dg W64 n i
/-- 2^256. -/
def R256 : Nat := W64 ^ 4
theorem w64_pos : 0 < W64 := by decide
theorem wd_lt (n i : Nat) : wd n i < 18446744073709551616 := dg_lt w64_pos n i
theorem wd_word (n i : Nat) : Word (wd n i : Int) := word_cast (wd_lt n i)
/-- The number n, as the value of four words. -/
abbrev V (n : Nat) : Value := .agg #[.int .u64 (wd n 0 : Int), .int .u64 (wd n 1 : Int), .int .u64 (wd n 2 : Int), .int .u64 (wd n 3 : Int)]
/-- The number of four words. -/
def num4 (a b c d : Nat) : Nat := a + W64 * (b + W64 * (c + W64 * d))
theorem num4_lt {a b c d : Nat} (ha : a < W64) (hb : b < W64) (hc : c < W64) (hd : d < W64) : num4 a b c d < R256 := by
  unfold num4 R256 W64 at *; omega
theorem wd_num4 {a b c d : Nat} (ha : a < W64) (hb : b < W64) (hc : c < W64) (hd : d < W64) :
    wd (num4 a b c d) 0 = a ∧ wd (num4 a b c d) 1 = b ∧ wd (num4 a b c d) 2 = c ∧ wd (num4 a b c d) 3 = d := by
  unfold wd dg num4 W64 at *
  refine ⟨?_, ?_, ?_, ?_⟩ <;> simp only [Nat.pow_zero, Nat.pow_one, Nat.div_one, Nat.reducePow] <;> omega
theorem num4_wd {n : Nat} (h : n < R256) : num4 (wd n 0) (wd n 1) (wd n 2) (wd n 3) = n := by
  unfold R256 num4 wd dg W64 at *
  simp only [Nat.pow_zero, Nat.pow_one, Nat.div_one, Nat.reducePow] at *
  omega
/-- Every four words are those of a number. -/
theorem words_num {a b c d : Int} (ha : Word a) (hb : Word b) (hc : Word c) (hd : Word d) :
    ∃ n, n < R256 ∧ a = (wd n 0 : Int) ∧ b = (wd n 1 : Int) ∧ c = (wd n 2 : Int) ∧ d = (wd n 3 : Int) := by
  have h := wd_num4 (show a.toNat < W64 from word_nat ha) (show b.toNat < W64 from word_nat hb) (show c.toNat < W64 from word_nat hc) (show d.toNat < W64 from word_nat hd)
  exact ⟨_, num4_lt (word_nat ha) (word_nat hb) (word_nat hc) (word_nat hd), by rw [h.1, word_eq ha], by rw [h.2.1, word_eq hb], by rw [h.2.2.1, word_eq hc], by rw [h.2.2.2, word_eq hd]⟩
theorem wd_ext {a b : Nat} (ha : a < R256) (hb : b < R256) (h : ∀ i, i < 4 → wd a i = wd b i) : a = b := by
  rw [← num4_wd ha, ← num4_wd hb, h 0 (by omega), h 1 (by omega), h 2 (by omega), h 3 (by omega)]
theorem wd_mod (n i : Nat) (hi : i < 4) : wd (n % R256) i = wd n i := by
  unfold wd dg R256 W64
  have : i = 0 ∨ i = 1 ∨ i = 2 ∨ i = 3 := by omega
  rcases this with rfl | rfl | rfl | rfl <;> simp only [Nat.pow_zero, Nat.pow_one, Nat.div_one, Nat.reducePow] <;> omega
theorem wd_div (n i : Nat) : wd (n / R256) i = wd n (i + 4) := by
  unfold wd dg R256; rw [Nat.div_div_eq_div_mul, ← Nat.pow_add, Nat.add_comm 4 i]
theorem V_mod (n : Nat) : V (n % R256) = V n := by
  simp only [V, wd_mod n 0 (by omega), wd_mod n 1 (by omega), wd_mod n 2 (by omega), wd_mod n 3 (by omega)]

/-- The digit of 16 bits with the index i of n. -/
def d16 (n i : Nat) : Nat := dg 65536 n i
theorem d16_lt (n i : Nat) : d16 n i < 65536 := dg_lt (by decide) n i
theorem r256_pow : R256 = 65536 ^ 16 := by decide
theorem d16_wd (n i j : Nat) (hi : i < 4) (hj : j < 4) : wd n i / 65536 ^ j % 65536 = d16 n (4 * i + j) := by
  unfold wd d16 dg W64
  have h1 : i = 0 ∨ i = 1 ∨ i = 2 ∨ i = 3 := by omega
  have h2 : j = 0 ∨ j = 1 ∨ j = 2 ∨ j = 3 := by omega
  rcases h1 with rfl | rfl | rfl | rfl <;> rcases h2 with rfl | rfl | rfl | rfl <;> simp only [Nat.reduceMul, Nat.reduceAdd, Nat.pow_zero, Nat.pow_one, Nat.div_one, Nat.reducePow] <;> omega

/-- The words of the first k digits of n. -/
def lowW (n k i : Nat) : Nat := wd (n % 65536 ^ k) i
theorem lowW_zero (n i : Nat) : lowW n 0 i = 0 := by unfold lowW wd dg; simp [Nat.mod_one]
theorem lowW_lt (n k i : Nat) : lowW n k i < 18446744073709551616 := wd_lt _ _
theorem lowW_full (n i : Nat) : lowW n 16 i = wd (n % R256) i := by unfold lowW; rw [r256_pow]
theorem mod16_succ (n k : Nat) : n % 65536 ^ (k + 1) = n % 65536 ^ k + 65536 ^ k * d16 n k := mod_succ 65536 n k
set_option maxHeartbeats 1000000 in
theorem lowW_succ (n k i : Nat) (hk : k < 16) (hi : i < 4) : lowW n (k + 1) i = lowW n k i + (if i = k / 4 then d16 n k * 65536 ^ (k % 4) else 0) := by
  have hm := mod16_succ n k
  have hd := d16_lt n k
  have hl := Nat.mod_lt n (Nat.pow_pos (n := k) (show 0 < 65536 by decide))
  unfold lowW
  rw [hm]
  generalize n % 65536 ^ k = x at *
  generalize d16 n k = d at *
  clear hm
  unfold wd dg W64
  have h1 : i = 0 ∨ i = 1 ∨ i = 2 ∨ i = 3 := by omega
  have h2 : k = 0 ∨ k = 1 ∨ k = 2 ∨ k = 3 ∨ k = 4 ∨ k = 5 ∨ k = 6 ∨ k = 7 ∨ k = 8 ∨ k = 9 ∨ k = 10 ∨ k = 11 ∨ k = 12 ∨ k = 13 ∨ k = 14 ∨ k = 15 := by omega
  rcases h2 with rfl | rfl | rfl | rfl | rfl | rfl | rfl | rfl | rfl | rfl | rfl | rfl | rfl | rfl | rfl | rfl <;> rcases h1 with rfl | rfl | rfl | rfl <;>
    simp only [Nat.reduceMod, Nat.reduceDiv, Nat.reduceEqDiff, if_true, if_false, Nat.pow_zero, Nat.pow_one, Nat.div_one, Nat.reducePow, reduceCtorEq] at * <;> omega
/-- The sum of a word so far and a digit's part does not pass a word. -/
theorem lowW_sum (n k : Nat) (hk : k < 16) : lowW n k (k / 4) + d16 n k * 65536 ^ (k % 4) < 18446744073709551616 := by
  have h := lowW_succ n k (k / 4) hk (by omega)
  rw [if_pos rfl] at h
  rw [← h]; exact lowW_lt _ _ _
end Go.Proofs.YtmokaikofcbboaaDoor
