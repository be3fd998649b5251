/-
  Cubes and squares of numbers in two parts, as the reference's constants are found: whether they are above a limit. Plain arithmetic.
-/
import Derived.Test.YthjfhgnmaepafaaDoorShaPlain
namespace Go.Proofs.YthjfhgnmaepafaaDoor

theorem cube_parts (a b : Nat) : (a * 262144 + b) * (a * 262144 + b) * (a * 262144 + b) = a * a * a * 18014398509481984 + 3 * a * a * b * 68719476736 + 3 * a * b * b * 262144 + b * b * b := by grind
theorem square_parts (a b : Nat) : (a * 4294967296 + b) * (a * 4294967296 + b) = a * a * 18446744073709551616 + 2 * a * b * 4294967296 + b * b := by grind
/-- The parts of a cube, each below 2^18 but the highest. -/
def cb1 (x : Nat) : Nat := 3 * (x / 262144) * (x % 262144) * (x % 262144) + x % 262144 * (x % 262144) * (x % 262144) / 262144
def cb2 (x : Nat) : Nat := 3 * (x / 262144) * (x / 262144) * (x % 262144) + cb1 x / 262144
def cb3 (x : Nat) : Nat := x / 262144 * (x / 262144) * (x / 262144) + cb2 x / 262144
def cbR (x : Nat) : Nat := x % 262144 * (x % 262144) * (x % 262144) % 262144 + cb1 x % 262144 + cb2 x % 262144
theorem cube_above (x n : Nat) : (decide (n * 4398046511104 < cb3 x) || decide (cb3 x = n * 4398046511104) && decide (0 < cbR x)) = above true x n := by
  obtain ⟨a, ha⟩ : ∃ a, a = x / 262144 := ⟨_, rfl⟩
  obtain ⟨b, hb⟩ : ∃ b, b = x % 262144 := ⟨_, rfl⟩
  have hx : x = a * 262144 + b := by omega
  have h := cube_parts a b
  rw [← hx] at h
  unfold above
  rw [if_pos rfl, h]
  unfold cbR cb3 cb2 cb1
  rw [← ha, ← hb]
  generalize b * b * b = c0
  generalize 3 * a * b * b = c1
  generalize 3 * a * a * b = c2
  generalize a * a * a = c3
  rw [← Bool.decide_and, ← Bool.decide_or]
  apply decide_eq_decide.2
  omega
/-- The parts of a square. -/
def sqH (x : Nat) : Nat := x / 4294967296 * (x / 4294967296) + 2 * (x / 4294967296) * (x % 4294967296) / 4294967296
def sqM (x : Nat) : Nat := 2 * (x / 4294967296) * (x % 4294967296) % 4294967296 * 4294967296
def sqL (x : Nat) : Nat := x % 4294967296 * (x % 4294967296)
theorem sqL_lt (x : Nat) : sqL x < 18446744073709551616 := by
  have h : x % 4294967296 ≤ 4294967295 := by omega
  have := Nat.mul_le_mul h h
  unfold sqL; omega
theorem sqM_lt (x : Nat) : sqM x < 18446744073709551616 := by unfold sqM; omega
theorem square_above (x n : Nat) (h1 : Nat) (e1 : h1 = if (sqL x + sqM x) % 18446744073709551616 < sqL x then sqH x + 1 else sqH x) : (decide (n < h1) || decide (h1 = n) && decide (0 < (sqL x + sqM x) % 18446744073709551616)) = above false x n := by
  obtain ⟨a, ha⟩ : ∃ a, a = x / 4294967296 := ⟨_, rfl⟩
  obtain ⟨b, hb⟩ : ∃ b, b = x % 4294967296 := ⟨_, rfl⟩
  have hx : x = a * 4294967296 + b := by omega
  have h := square_parts a b
  rw [← hx] at h
  have hl := sqL_lt x
  unfold above
  rw [if_neg (by decide), h]
  unfold sqH sqM sqL at e1
  unfold sqM sqL
  unfold sqL at hl
  rw [← ha, ← hb] at e1
  rw [← ha, ← hb]
  rw [← hb] at hl
  revert e1 hl
  generalize b * b = c0
  generalize 2 * a * b = c1
  generalize a * a = c2
  intro e1 hl
  rw [← Bool.decide_and, ← Bool.decide_or]
  apply decide_eq_decide.2
  split at e1 <;> omega
/-- The bounds of the parts, for numbers below 2^37. -/
theorem cube_bounds {x : Nat} (hx : x < 137438953472) : x / 262144 * (x / 262144) * (x / 262144) < 144115188075855872 ∧ 3 * (x / 262144) < 1572864 ∧ 3 * (x / 262144) * (x % 262144) < 412316860416 ∧ 3 * (x / 262144) * (x / 262144) < 824633720832 ∧ x % 262144 * (x % 262144) * (x % 262144) < 18014398509481984 ∧ x % 262144 * (x % 262144) < 68719476736 ∧ x / 262144 * (x / 262144) < 274877906944 ∧ 3 * (x / 262144) * (x % 262144) * (x % 262144) < 108086391056891904 ∧ 3 * (x / 262144) * (x / 262144) * (x % 262144) < 216172782113783808 := by
  have ha : x / 262144 ≤ 524287 := by omega
  have hb : x % 262144 ≤ 262143 := by omega
  generalize x / 262144 = a at *
  generalize x % 262144 = b at *
  have h1 := Nat.mul_le_mul (Nat.mul_le_mul ha ha) ha
  have h2 := Nat.mul_le_mul (Nat.mul_le_mul hb hb) hb
  have h3 := Nat.mul_le_mul (Nat.mul_le_mul_left 3 ha) hb
  have h4 := Nat.mul_le_mul (Nat.mul_le_mul_left 3 ha) ha
  have h5 := Nat.mul_le_mul h3 hb
  have h6 := Nat.mul_le_mul h4 hb
  have h7 := Nat.mul_le_mul hb hb
  have h8 := Nat.mul_le_mul ha ha
  refine ⟨?_, ?_, ?_, ?_, ?_, ?_, ?_, ?_, ?_⟩ <;> omega
theorem rootF_lt (cube : Bool) (n : Nat) : ∀ k x, x + 2 ^ k ≤ 2 ^ 37 → rootF cube n k x < 2 ^ 37
  | 0, x, h => by unfold rootF; omega
  | k + 1, x, h => by
    unfold rootF
    refine rootF_lt cube n k _ ?_
    rw [Nat.pow_succ] at h
    split <;> omega
end Go.Proofs.YthjfhgnmaepafaaDoor
