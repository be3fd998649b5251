/-
  Plain arithmetic of digits: the digits of a number in a base, and the school methods of addition, subtraction and multiplication on them. No condition but that the base is at least 2.
-/
import Derived.WalkKit
namespace Go.Proofs.YtmokaikofcbboaaDoor

/-- The digit with the index i of n in base B. -/
def dg (B n i : Nat) : Nat := n / B ^ i % B
theorem dg_lt {B : Nat} (hB : 0 < B) (n i : Nat) : dg B n i < B := Nat.mod_lt _ hB
theorem dg_zero_of_lt {B n i : Nat} (h : n < B ^ i) : dg B n i = 0 := by unfold dg; rw [Nat.div_eq_of_lt h]; exact Nat.zero_mod _
theorem mod_succ (B n k : Nat) : n % B ^ (k + 1) = n % B ^ k + B ^ k * dg B n k := by
  unfold dg; rw [Nat.pow_succ, Nat.mod_mul]
theorem div_succ (B n k : Nat) : n / B ^ (k + 1) = n / B ^ k / B := by rw [Nat.pow_succ, Nat.div_div_eq_div_mul]
/-- A multiple of B^k does not touch the digits below k. -/
theorem dg_add_low {B : Nat} (hB : 0 < B) (n m k p : Nat) (hp : p < k) : dg B (n + m * B ^ k) p = dg B n p := by
  unfold dg
  obtain ⟨d, rfl⟩ : ∃ d, k = p + 1 + d := ⟨k - (p + 1), by omega⟩
  have e : m * B ^ (p + 1 + d) = B ^ p * (B * (m * B ^ d)) := by
    rw [Nat.pow_add, Nat.pow_succ]; simp only [Nat.mul_assoc, Nat.mul_left_comm, Nat.mul_comm]
  rw [e, Nat.add_mul_div_left _ _ (Nat.pow_pos hB), Nat.add_mul_mod_self_left]

/-- The carry into the digit k of the sum. -/
def carryA (B a b k : Nat) : Nat := (a % B ^ k + b % B ^ k) / B ^ k
theorem carryA_zero (B a b : Nat) : carryA B a b 0 = 0 := by simp [carryA, Nat.mod_one]
theorem carryA_le {B : Nat} (hB : 0 < B) (a b k : Nat) : carryA B a b k ≤ 1 := by
  unfold carryA
  have hp := Nat.pow_pos (n := k) hB
  have h1 := Nat.mod_lt a hp
  have h2 := Nat.mod_lt b hp
  exact Nat.le_of_lt_succ ((Nat.div_lt_iff_lt_mul hp).2 (by omega))
theorem carryA_succ {B : Nat} (hB : 0 < B) (a b k : Nat) : carryA B a b (k + 1) = (dg B a k + dg B b k + carryA B a b k) / B := by
  unfold carryA
  rw [mod_succ, mod_succ, Nat.pow_succ, ← Nat.div_div_eq_div_mul]
  have e : a % B ^ k + B ^ k * dg B a k + (b % B ^ k + B ^ k * dg B b k) = (a % B ^ k + b % B ^ k) + B ^ k * (dg B a k + dg B b k) := by
    rw [Nat.mul_add]; omega
  rw [e, Nat.add_mul_div_left _ _ (Nat.pow_pos hB)]
  congr 1; omega
theorem dg_add {B : Nat} (hB : 0 < B) (a b k : Nat) : dg B (a + b) k = (dg B a k + dg B b k + carryA B a b k) % B := by
  unfold carryA
  have hp := Nat.pow_pos (n := k) hB
  have e : a + b = (a % B ^ k + b % B ^ k) + B ^ k * (a / B ^ k + b / B ^ k) := by
    have h1 := Nat.mod_add_div a (B ^ k)
    have h2 := Nat.mod_add_div b (B ^ k)
    rw [Nat.mul_add]; omega
  conv => lhs; unfold dg; rw [e, Nat.add_mul_div_left _ _ hp]
  unfold dg
  generalize (a % B ^ k + b % B ^ k) / B ^ k = c
  generalize a / B ^ k = u
  generalize b / B ^ k = v
  have e1 : u % B + v % B + c = u % B + (v % B + c) := by omega
  have e2 : u + (v % B + c) = v % B + (u + c) := by omega
  have e3 : v + (u + c) = c + (u + v) := by omega
  rw [e1, Nat.mod_add_mod, e2, Nat.mod_add_mod, e3]
theorem carryA_top {B a b k : Nat} (ha : a < B ^ k) (hb : b < B ^ k) : carryA B a b k = (a + b) / B ^ k := by
  unfold carryA; rw [Nat.mod_eq_of_lt ha, Nat.mod_eq_of_lt hb]

/-- The borrow into the digit k of the difference. -/
def borrowA (B a b k : Nat) : Nat := if a % B ^ k < b % B ^ k then 1 else 0
theorem borrowA_zero (B a b : Nat) : borrowA B a b 0 = 0 := by simp [borrowA, Nat.mod_one]
theorem borrowA_le (B a b k : Nat) : borrowA B a b k ≤ 1 := by unfold borrowA; split <;> omega
theorem borrowA_succ {B : Nat} (hB : 0 < B) (a b k : Nat) : borrowA B a b (k + 1) = if dg B a k < dg B b k + borrowA B a b k then 1 else 0 := by
  unfold borrowA
  have hp := Nat.pow_pos (n := k) hB
  have h1 := Nat.mod_lt a hp
  have h2 := Nat.mod_lt b hp
  rw [mod_succ, mod_succ]
  generalize a % B ^ k = x at *
  generalize b % B ^ k = y at *
  generalize dg B a k = d at *
  generalize dg B b k = e at *
  generalize B ^ k = M at *
  rcases Nat.lt_trichotomy d e with h | h | h
  · obtain ⟨q, rfl⟩ : ∃ q, e = d + 1 + q := ⟨e - (d + 1), by omega⟩
    have : M * (d + 1 + q) = M * d + M + M * q := by rw [Nat.mul_add, Nat.mul_add, Nat.mul_one]
    rw [if_pos (by omega), if_pos (by omega)]
  · subst h
    by_cases hxy : x < y
    · rw [if_pos (by omega), if_pos hxy, if_pos (by omega)]
    · rw [if_neg (by omega), if_neg hxy, if_neg (by omega)]
  · obtain ⟨q, rfl⟩ : ∃ q, d = e + 1 + q := ⟨d - (e + 1), by omega⟩
    have : M * (e + 1 + q) = M * e + M + M * q := by rw [Nat.mul_add, Nat.mul_add, Nat.mul_one]
    rw [if_neg (by omega), if_neg (by split <;> omega)]
/-- The digit k of a - b modulo B^n, for k below n. -/
theorem dg_sub {B : Nat} (hB : 0 < B) (a b k n : Nat) (hk : k < n) (hb : b ≤ B ^ n) : dg B (a + B ^ n - b) k = (dg B a k + B - dg B b k - borrowA B a b k) % B := by
  have hp := Nat.pow_pos (n := k) hB
  obtain ⟨r, rfl⟩ : ∃ r, n = k + 1 + r := ⟨n - (k + 1), by omega⟩
  have hP : B ^ (k + 1 + r) = B ^ k * (B * B ^ r) := by rw [Nat.pow_add, Nat.pow_succ, Nat.mul_assoc]
  have hR := Nat.pow_pos (n := r) hB
  have h1 := Nat.mod_add_div a (B ^ k)
  have h2 := Nat.mod_add_div b (B ^ k)
  have l1 := Nat.mod_lt a hp
  have l2 := Nat.mod_lt b hp
  have da := Nat.mod_add_div (a / B ^ k) B
  have db := Nat.mod_add_div (b / B ^ k) B
  have la := Nat.mod_lt (a / B ^ k) hB
  have lb := Nat.mod_lt (b / B ^ k) hB
  have hqb : b / B ^ k ≤ B * B ^ r := by
    rw [hP] at hb
    exact Nat.div_le_of_le_mul hb
  unfold dg borrowA
  rw [hP]
  rw [hP] at hb
  -- the quotient of the difference by B^k
  have hq : (a + B ^ k * (B * B ^ r) - b) / B ^ k = a / B ^ k + B * B ^ r - b / B ^ k - (if a % B ^ k < b % B ^ k then 1 else 0) := by
    generalize a % B ^ k = x at *
    generalize b % B ^ k = y at *
    generalize a / B ^ k = qa at *
    generalize b / B ^ k = qb at *
    generalize B * B ^ r = W at *
    generalize B ^ k = M at *
    subst h1
    subst h2
    by_cases hxy : x < y
    · rw [if_pos hxy]
      have hlt : qb < W := by
        rcases Nat.lt_or_ge qb W with h | h
        · exact h
        · have : qb = W := by omega
          subst this; omega
      obtain ⟨t, ht⟩ : ∃ t, W = qb + 1 + t := ⟨W - (qb + 1), by omega⟩
      subst ht
      have e : x + M * qa + M * (qb + 1 + t) - (y + M * qb) = (x + M - y) + M * (qa + t) := by
        have : M * (qb + 1 + t) = M * qb + M + M * t := by rw [Nat.mul_add, Nat.mul_add, Nat.mul_one]
        rw [this, Nat.mul_add]; omega
      rw [e, Nat.add_mul_div_left _ _ hp, Nat.div_eq_of_lt (by omega)]
      omega
    · rw [if_neg hxy]
      obtain ⟨t, ht⟩ : ∃ t, W = qb + t := ⟨W - qb, by omega⟩
      subst ht
      have e : x + M * qa + M * (qb + t) - (y + M * qb) = (x - y) + M * (qa + t) := by
        rw [Nat.mul_add, Nat.mul_add]; omega
      rw [e, Nat.add_mul_div_left _ _ hp, Nat.div_eq_of_lt (by omega)]
      omega
  have hbr : b / B ^ k + (if a % B ^ k < b % B ^ k then 1 else 0) ≤ B * B ^ r := by
    split
    · rcases Nat.lt_or_ge (b / B ^ k) (B * B ^ r) with h | h
      · omega
      · have e : b / B ^ k = B * B ^ r := by omega
        have h3 : b % B ^ k + B ^ k * (B * B ^ r) = b := by rw [← e]; exact Nat.mod_add_div b (B ^ k)
        have h5 : b % B ^ k + B ^ k * (B * B ^ r) ≤ 0 + B ^ k * (B * B ^ r) := by rw [h3, Nat.zero_add]; exact hb
        have h6 := Nat.le_of_add_le_add_right h5
        have h7 : b % B ^ k = 0 := Nat.le_zero.1 h6
        rename_i hlt
        exact absurd hlt (by rw [h7]; exact Nat.not_lt_zero _)
    · omega
  rw [hq]
  have hb1 : (if a % B ^ k < b % B ^ k then 1 else 0) ≤ 1 := by split <;> omega
  generalize (if a % B ^ k < b % B ^ k then 1 else 0) = br at *
  clear hq h1 h2 l1 l2 hP hb hk
  generalize a / B ^ k = qa at *
  generalize b / B ^ k = qb at *
  generalize B ^ r = R at *
  generalize hda : qa % B = x at *
  generalize hdb : qb % B = y at *
  generalize qa / B = u at *
  generalize qb / B = v at *
  subst da
  subst db
  clear hda hdb
  have hv : v ≤ R := by
    rcases Nat.lt_or_ge R v with h | h
    · have : B * (R + 1) ≤ B * v := Nat.mul_le_mul_left _ h
      rw [Nat.mul_add] at this; omega
    · exact h
  by_cases hvR : v = R
  · subst hvR
    have : y = 0 ∧ br = 0 := by omega
    obtain ⟨rfl, rfl⟩ := this
    have e : x + B * u + B * v - (0 + B * v) - 0 = x + B * u := by omega
    rw [e, Nat.add_mul_mod_self_left]
    have e2 : x + B - 0 - 0 = x + B := by omega
    rw [e2, Nat.add_mod_right]
  · obtain ⟨t, rfl⟩ : ∃ t, R = v + 1 + t := ⟨R - (v + 1), by omega⟩
    have e : x + B * u + B * (v + 1 + t) - (y + B * v) - br = (x + B - y - br) + B * (u + t) := by
      have : B * (v + 1 + t) = B * v + B + B * t := by rw [Nat.mul_add, Nat.mul_add, Nat.mul_one]
      rw [this, Nat.mul_add]; omega
    rw [e, Nat.add_mul_mod_self_left]

/-- Multiplication: N is the product so far, x the digit of the other factor, T the product with j digits of b more. -/
def mulT (B N x b i j : Nat) : Nat := N + x * (b % B ^ j) * B ^ i
def mulC (B N x b i j : Nat) : Nat := mulT B N x b i j / B ^ (i + j) - N / B ^ (i + j)
theorem mulT_zero (B N x b i : Nat) : mulT B N x b i 0 = N := by simp [mulT, Nat.mod_one]
theorem mulC_zero (B N x b i : Nat) : mulC B N x b i 0 = 0 := by simp [mulC, mulT_zero]
theorem mulT_succ (B N x b i j : Nat) : mulT B N x b i (j + 1) = mulT B N x b i j + x * dg B b j * B ^ (i + j) := by
  unfold mulT
  rw [mod_succ, Nat.pow_add]
  have : x * (b % B ^ j + B ^ j * dg B b j) * B ^ i = x * (b % B ^ j) * B ^ i + x * dg B b j * (B ^ i * B ^ j) := by
    rw [Nat.mul_add, Nat.add_mul]
    congr 1
    simp only [Nat.mul_assoc, Nat.mul_left_comm, Nat.mul_comm]
  rw [this]; omega
theorem mulT_low {B : Nat} (hB : 0 < B) (N x b i j p : Nat) (hp : p < i + j) : dg B (mulT B N x b i (j + 1)) p = dg B (mulT B N x b i j) p := by
  rw [mulT_succ]; exact dg_add_low hB _ _ _ _ hp
theorem mulT_ge (B N x b i j k : Nat) : N / B ^ k ≤ mulT B N x b i j / B ^ k := Nat.div_le_div_right (by unfold mulT; omega)
theorem mulT_div {B : Nat} (hB : 0 < B) (N x b i j : Nat) : mulT B N x b i (j + 1) / B ^ (i + j) = N / B ^ (i + j) + (x * dg B b j + mulC B N x b i j) := by
  have hp := Nat.pow_pos (n := i + j) hB
  have h := mulT_ge B N x b i j (i + j)
  rw [mulT_succ, Nat.add_mul_div_right _ _ hp]
  unfold mulC
  omega
theorem mulT_dg {B : Nat} (hB : 0 < B) (N x b i j : Nat) : dg B (mulT B N x b i (j + 1)) (i + j) = (dg B N (i + j) + x * dg B b j + mulC B N x b i j) % B := by
  conv => lhs; unfold dg
  rw [mulT_div hB]
  unfold dg
  rw [Nat.add_assoc, Nat.mod_add_mod]
theorem mulC_succ {B : Nat} (hB : 0 < B) (N x b i j : Nat) : mulC B N x b i (j + 1) = (dg B N (i + j) + x * dg B b j + mulC B N x b i j) / B := by
  conv => lhs; unfold mulC
  rw [← Nat.add_assoc i j 1, div_succ, div_succ, mulT_div hB]
  unfold dg
  generalize N / B ^ (i + j) = q
  generalize mulC B N x b i j = c
  generalize x * (b / B ^ j % B) = s
  have h := Nat.mod_add_div q B
  have e : q + (s + c) = (q % B + s + c) + B * (q / B) := by omega
  rw [e, Nat.add_mul_div_left _ _ hB]
  exact Nat.add_sub_cancel _ _
theorem mulC_lt {B : Nat} (hB : 1 < B) (N x b i j : Nat) (hx : x < B) : mulC B N x b i j < B := by
  induction j with
  | zero => rw [mulC_zero]; omega
  | succ j ih =>
    have hB0 : 0 < B := by omega
    rw [mulC_succ hB0]
    refine (Nat.div_lt_iff_lt_mul hB0).2 ?_
    have h1 := dg_lt hB0 N (i + j)
    have h2 := dg_lt hB0 b j
    have h3 : x * dg B b j ≤ (B - 1) * (B - 1) := Nat.mul_le_mul (by omega) (by omega)
    obtain ⟨t, rfl⟩ : ∃ t, B = t + 1 := ⟨B - 1, by omega⟩
    have h4 : (t + 1) * (t + 1) = t * t + t + t + 1 := by rw [Nat.add_mul, Nat.mul_add]; omega
    simp only [Nat.add_sub_cancel] at h3
    rw [h4]
    omega
theorem mulT_full {B a b i n : Nat} (hb : b < B ^ n) : mulT B (a % B ^ i * b) (dg B a i) b i n = a % B ^ (i + 1) * b := by
  unfold mulT
  rw [Nat.mod_eq_of_lt hb, mod_succ, Nat.add_mul]
  congr 1
  simp only [Nat.mul_left_comm, Nat.mul_comm]
theorem mul_lt_top {B a b i n : Nat} (hB : 0 < B) (hb : b < B ^ n) : a % B ^ i * b < B ^ (i + n) := by
  have h1 := Nat.mod_lt a (Nat.pow_pos (n := i) hB)
  rw [Nat.pow_add]
  exact Nat.mul_lt_mul'' h1 hb
theorem mulC_top {B a b i n : Nat} (hB : 0 < B) (hb : b < B ^ n) : mulC B (a % B ^ i * b) (dg B a i) b i n = dg B (a % B ^ (i + 1) * b) (i + n) := by
  unfold mulC
  have h1 := mul_lt_top (a := a) (i := i) hB hb
  have h2 := mul_lt_top (a := a) (i := i + 1) hB hb
  rw [mulT_full hb, Nat.div_eq_of_lt h1, Nat.sub_zero]
  have e : i + 1 + n = i + n + 1 := by omega
  rw [e] at h2
  conv => rhs; unfold dg
  generalize a % B ^ (i + 1) * b = X at *
  rw [Nat.pow_succ] at h2
  exact (Nat.mod_eq_of_lt (Nat.div_lt_of_lt_mul h2)).symm

/-- The digits in the midst of a row of the school method: below i + k those of the new product, from there on those of the old one. -/
def midW (B a b i k p : Nat) : Nat := if p < i + k then dg B (mulT B (a % B ^ i * b) (dg B a i) b i k) p else dg B (a % B ^ i * b) p
theorem midW_zero (B a b i p : Nat) : midW B a b i 0 p = dg B (a % B ^ i * b) p := by unfold midW; rw [mulT_zero]; split <;> rfl
theorem midW_here (B a b i k : Nat) : midW B a b i k (i + k) = dg B (a % B ^ i * b) (i + k) := by unfold midW; rw [if_neg (by omega)]
theorem midW_new {B : Nat} (hB : 0 < B) (a b i k : Nat) : midW B a b i (k + 1) (i + k) = (dg B a i * dg B b k + dg B (a % B ^ i * b) (i + k) + mulC B (a % B ^ i * b) (dg B a i) b i k) % B := by
  unfold midW; rw [if_pos (by omega), mulT_dg hB, Nat.add_comm (dg B (a % B ^ i * b) (i + k))]
theorem midC_new {B : Nat} (hB : 0 < B) (a b i k : Nat) : mulC B (a % B ^ i * b) (dg B a i) b i (k + 1) = (dg B a i * dg B b k + dg B (a % B ^ i * b) (i + k) + mulC B (a % B ^ i * b) (dg B a i) b i k) / B := by
  rw [mulC_succ hB, Nat.add_comm (dg B (a % B ^ i * b) (i + k))]
theorem midW_other {B : Nat} (hB : 0 < B) (a b i k p : Nat) (hp : p ≠ i + k) : midW B a b i k p = midW B a b i (k + 1) p := by
  unfold midW
  by_cases h : p < i + k
  · rw [if_pos h, if_pos (by omega), mulT_low hB _ _ _ _ _ _ h]
  · rw [if_neg h, if_neg (by omega)]
/-- The row is done: what is left is the carry's digit. -/
theorem midW_done {B a b i n p : Nat} (hB : 0 < B) (hb : b < B ^ n) (hp : p ≠ i + n) : midW B a b i n p = dg B (a % B ^ (i + 1) * b) p := by
  unfold midW
  by_cases h : p < i + n
  · rw [if_pos h, mulT_full hb]
  · rw [if_neg h]
    have h1 := mul_lt_top (a := a) (i := i) hB hb
    have h2 := mul_lt_top (a := a) (i := i + 1) hB hb
    have p1 : B ^ (i + n) ≤ B ^ p := Nat.pow_le_pow_right hB (by omega)
    have p2 : B ^ (i + 1 + n) ≤ B ^ p := Nat.pow_le_pow_right hB (by omega)
    rw [dg_zero_of_lt (Nat.lt_of_lt_of_le h1 p1), dg_zero_of_lt (Nat.lt_of_lt_of_le h2 p2)]

end Go.Proofs.YtmokaikofcbboaaDoor
