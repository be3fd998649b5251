/-
  Montgomery forms as plain numbers: the form of a sum, a difference, a product; the product of two forms; one step of the word-by-word reduction. Conditions: as each says.
-/
import Derived.Test.YtpiialjnjfkfeaaDoorModGet
namespace Go.Proofs.YtpiialjnjfkfeaaDoor

/-- The Montgomery form of v modulo p. -/
def fm (p v : Nat) : Nat := radV p 256 * v % p
/-- The inverse of 2^256 modulo p. -/
def rinv (p : Nat) : Nat := R256 ^ (p - 2) % p
/-- The Montgomery product. -/
def mm (p a b : Nat) : Nat := a * b % p * rinv p % p

theorem r256_eq : R256 = 2 ^ 256 := by decide +kernel
theorem fm_eq (p v : Nat) : fm p v = R256 * v % p := by
  unfold fm radV; rw [← r256_eq, Nat.mod_mul_mod]
theorem fm_lt {p : Nat} (h : 0 < p) (v : Nat) : fm p v < p := Nat.mod_lt _ h
theorem fm_mod (p v : Nat) : fm p (v % p) = fm p v := by
  unfold fm; rw [Nat.mul_mod, Nat.mod_mod, ← Nat.mul_mod]
theorem fm_zero (p : Nat) : fm p 0 = 0 := by unfold fm; simp
theorem getD_fm (p : Nat) (vs : List Nat) (i : Nat) : (vs.map (fm p)).getD i 0 = fm p (vs.getD i 0) := by
  rw [List.getD_eq_getElem?_getD, List.getD_eq_getElem?_getD, List.getElem?_map]
  cases h : vs[i]? with
  | none => simp [fm_zero]
  | some v => simp
theorem fm_one (p : Nat) : fm p 1 = radV p 256 := by unfold fm radV; rw [Nat.mul_one, Nat.mod_mod]
theorem fm_add (p x y : Nat) : (fm p x + fm p y) % p = fm p ((x + y) % p) := by
  rw [fm_mod]; unfold fm; rw [← Nat.add_mod, ← Nat.mul_add]
/-- Two numbers below p with the same sum with a third one are the same. -/
theorem add_cancel {p a b c : Nat} (ha : a < p) (hb : b < p) (h : (a + c) % p = (b + c) % p) : a = b := by
  have h1 : (a + (c % p)) % p = (b + (c % p)) % p := by rw [Nat.add_mod_mod, Nat.add_mod_mod]; exact h
  have hc : c % p < p := Nat.mod_lt _ (by omega)
  generalize c % p = d at h1 hc
  have e1 : (a + d) % p = if a + d < p then a + d else a + d - p := by
    split
    · exact Nat.mod_eq_of_lt (by assumption)
    · rw [Nat.mod_eq_sub_mod (by omega)]; exact Nat.mod_eq_of_lt (by omega)
  have e2 : (b + d) % p = if b + d < p then b + d else b + d - p := by
    split
    · exact Nat.mod_eq_of_lt (by assumption)
    · rw [Nat.mod_eq_sub_mod (by omega)]; exact Nat.mod_eq_of_lt (by omega)
  rw [e1, e2] at h1
  split at h1 <;> split at h1 <;> omega
theorem fm_neg {p x : Nat} (h : 0 < p) (hx : x < p) : (p - fm p x) % p = fm p ((p - x) % p) := by
  refine add_cancel (c := fm p x) (Nat.mod_lt _ h) (fm_lt h _) ?_
  rw [fm_add, Nat.mod_add_mod, Nat.mod_add_mod, show p - x + x = p by omega, Nat.mod_self, fm_zero]
  have := fm_lt h x
  rw [show p - fm p x + fm p x = p by omega, Nat.mod_self]
theorem fm_sub {p x y : Nat} (h : 0 < p) (hy : y < p) : (fm p x + (p - fm p y)) % p = fm p ((x + (p - y)) % p) := by
  refine add_cancel (c := fm p y) (Nat.mod_lt _ h) (fm_lt h _) ?_
  have := fm_lt h y
  rw [fm_add, Nat.mod_add_mod, Nat.mod_add_mod, show fm p x + (p - fm p y) + fm p y = fm p x + p by omega, show x + (p - y) + y = x + p by omega, Nat.add_mod_right, Nat.add_mod_right, fm_mod]
  exact Nat.mod_eq_of_lt (fm_lt h x)

/-- What the moduli of the fields give. -/
structure Mp (p : Nat) : Prop where
  lt : p < R256
  one : 1 < p
  inv : R256 * rinv p % p = 1
theorem mp_of {p : Nat} (hp : p < R256) (h1 : 1 < p) (hf : ∀ x, x % p ≠ 0 → x ^ (p - 1) % p = 1) (hr : R256 % p ≠ 0) : Mp p :=
  ⟨hp, h1, by unfold rinv; exact inverse_of h1 hf R256 hr⟩
theorem mp1 : Mp P1 := mp_of p1_lt p1_one fermat_p1 (by decide +kernel)
theorem mp2 : Mp P2 := mp_of p2_lt p2_one fermat_p2 (by decide +kernel)

theorem Mp.pos {p : Nat} (h : Mp p) : 0 < p := by have := h.one; omega
theorem Mp.cancel {p : Nat} (h : Mp p) (c : Nat) : c * (R256 * rinv p) % p = c % p := by
  rw [Nat.mul_mod, h.inv, Nat.mul_one, Nat.mod_mod]
theorem mm_lt {p : Nat} (h : Mp p) (a b : Nat) : mm p a b < p := Nat.mod_lt _ h.pos
/-- A factor 2^256 cancels. -/
theorem r_cancel {p : Nat} (h : Mp p) {a b : Nat} (ha : a < p) (hb : b < p) (e : a * R256 % p = b * R256 % p) : a = b := by
  have k : ∀ c, c < p → c * R256 % p * rinv p % p = c := fun c hc => by
    rw [Nat.mod_mul_mod, Nat.mul_assoc, h.cancel]
    exact Nat.mod_eq_of_lt hc
  rw [← k a ha, ← k b hb, e]
/-- The Montgomery product is told by its product with 2^256. -/
theorem mm_of {p : Nat} (h : Mp p) {r a b : Nat} (hr : r < p) (e : r * R256 % p = a * b % p) : r = mm p a b := by
  refine r_cancel h hr (mm_lt h a b) ?_
  rw [e]
  unfold mm
  rw [Nat.mod_mul_mod, Nat.mul_assoc, Nat.mul_comm (rinv p), h.cancel, Nat.mod_mod]
theorem mm_r {p : Nat} (h : Mp p) (a b : Nat) : mm p a b * R256 % p = a * b % p := by
  unfold mm
  rw [Nat.mod_mul_mod, Nat.mul_assoc, Nat.mul_comm (rinv p), h.cancel, Nat.mod_mod]
theorem mm_fm {p : Nat} (h : Mp p) (x y : Nat) : mm p (fm p x) (fm p y) = fm p (x * y % p) := by
  symm
  refine mm_of h (fm_lt h.pos _) ?_
  rw [fm_mod, fm_eq, fm_eq, fm_eq, Nat.mod_mul_mod, ← Nat.mul_mod]
  congr 1
  ac_rfl
/-- The value of a form. -/
theorem mm_one {p : Nat} (h : Mp p) (x : Nat) : mm p (fm p x) 1 = x % p := by
  symm
  refine mm_of h (Nat.mod_lt _ h.pos) ?_
  rw [fm_eq, Nat.mul_one, Nat.mod_mul_mod, Nat.mod_mod, Nat.mul_comm]
/-- The form of any number. -/
theorem mm_square {p : Nat} (h : Mp p) (a : Nat) : mm p a (radV p 256 * radV p 256 % p) = fm p (a % p) := by
  symm
  refine mm_of h (fm_lt h.pos _) ?_
  have e : radV p 256 * radV p 256 % p = R256 * R256 % p := by
    unfold radV; rw [← r256_eq, ← Nat.mul_mod]
  rw [fm_mod, fm_eq, Nat.mod_mul_mod, e, Nat.mul_mod_mod, Nat.mul_comm R256 a, Nat.mul_assoc]
theorem mm_comm (p a b : Nat) : mm p a b = mm p b a := by unfold mm; rw [Nat.mul_comm a b]

/-- One step of the reduction: the lowest word becomes 0. -/
theorem step_zero {W p i s : Nat} (hi : (i * p + 1) % W = 0) : (s + s % W * i % W * p) % W = 0 := by
  have e : (s + s % W * i % W * p) % W = (s * (i * p + 1)) % W := by
    rw [Nat.add_mod, Nat.mod_mul_mod, Nat.mul_assoc, Nat.mod_mul_mod, ← Nat.add_mod, Nat.mul_add, Nat.mul_one, Nat.add_comm]
  rw [e, Nat.mul_mod, hi, Nat.mul_zero, Nat.zero_mod]
/-- What the steps of the reduction keep: t * W^k is the product of the first k words and b, modulo p; t stays below p + b. -/
structure Redc (p b A t Wk : Nat) : Prop where
  cong : t * Wk % p = A * b % p
  bound : t < p + b
theorem Redc.start (p b : Nat) (h : 0 < p) : Redc p b 0 0 1 := ⟨by simp, by omega⟩
theorem Redc.step {W p b A t Wk a m : Nat} (hW : 0 < W) (h : Redc p b A t Wk) (ha : a < W) (hm : m < W) (hz : (t + a * b + m * p) % W = 0) :
    Redc p b (A + a * Wk) ((t + a * b + m * p) / W) (Wk * W) := by
  obtain ⟨q, hq⟩ : ∃ q, t + a * b + m * p = W * q := ⟨(t + a * b + m * p) / W, by have := Nat.div_add_mod (t + a * b + m * p) W; omega⟩
  have e : (t + a * b + m * p) / W = q := by rw [hq, Nat.mul_div_cancel_left _ hW]
  rw [e]
  constructor
  · have e1 : q * (Wk * W) = t * Wk + a * Wk * b + p * (m * Wk) := by
      calc q * (Wk * W) = (W * q) * Wk := by rw [Nat.mul_comm Wk W, ← Nat.mul_assoc, Nat.mul_comm q W]
        _ = (t + a * b + m * p) * Wk := by rw [hq]
        _ = t * Wk + a * Wk * b + p * (m * Wk) := by
          rw [Nat.add_mul, Nat.add_mul]
          congr 1
          · congr 1
            rw [Nat.mul_assoc, Nat.mul_comm b Wk, ← Nat.mul_assoc]
          · rw [Nat.mul_comm m p, Nat.mul_assoc]
    rw [e1, Nat.add_mul_mod_self_left, Nat.add_mod, h.cong, ← Nat.add_mod, ← Nat.add_mul]
  · have h1 : a * b ≤ (W - 1) * b := Nat.mul_le_mul_right b (by omega)
    have h2 : m * p ≤ (W - 1) * p := Nat.mul_le_mul_right p (by omega)
    have h3 : (W - 1) * b + b = W * b := by
      rw [← Nat.succ_mul]; congr 1; omega
    have h4 : (W - 1) * p + p = W * p := by
      rw [← Nat.succ_mul]; congr 1; omega
    have h5 := h.bound
    have h6 : W * q < W * (p + b) := by rw [Nat.mul_add]; omega
    exact Nat.lt_of_mul_lt_mul_left h6
end Go.Proofs.YtpiialjnjfkfeaaDoor
