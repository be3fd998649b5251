/-
  Powers, windows of an exponent, halvings and inverses of Montgomery forms as plain numbers. Conditions: as each says.
-/
import Derived.Test.YtclehgconbdkpaaDoorMontAll
namespace Go.Proofs.YtclehgconbdkpaaDoor

theorem fm_inj {p x y : Nat} (h : Mp p) (hx : x < p) (hy : y < p) (e : fm p x = fm p y) : x = y := by
  have h1 := mm_one h x
  rw [e, mm_one h y, Nat.mod_eq_of_lt hx, Nat.mod_eq_of_lt hy] at h1
  exact h1.symm
theorem fm_of_value {p u : Nat} (h : Mp p) (hu : u < p) : fm p (mm p u 1) = u := by
  rw [fm_eq, Nat.mul_comm, mm_r h, Nat.mul_one, Nat.mod_eq_of_lt hu]
/-- The product of two powers' forms. -/
theorem pow_mm {p : Nat} (h : Mp p) (v m n : Nat) : mm p (fm p (v ^ m % p)) (fm p (v ^ n % p)) = fm p (v ^ (m + n) % p) := by
  rw [mm_fm h, ← Nat.mul_mod, ← Nat.pow_add]
theorem pow_mm1 {p : Nat} (h : Mp p) (v m : Nat) : mm p (fm p (v ^ m % p)) (fm p v) = fm p (v ^ (m + 1) % p) := by
  rw [mm_fm h, Nat.mod_mul_mod, ← Nat.pow_succ]
theorem pow_zero_fm (p v : Nat) : fm p (v ^ 0 % p) = radV p 256 := by rw [Nat.pow_zero, fm_mod, fm_one]

/-- The exponent's first k windows of four bits. -/
def winV (e k : Nat) : Nat := e / 16 ^ (64 - k)
theorem r256_win : R256 = 16 ^ 64 := by decide +kernel
theorem win_zero {e : Nat} (he : e < R256) : winV e 0 = 0 := by
  unfold winV; rw [r256_win] at he; exact Nat.div_eq_of_lt he
theorem win_full (e : Nat) : winV e 64 = e := by unfold winV; simp
/-- The window with the number w, 0 the lowest. -/
def digV (e w : Nat) : Nat := e / 16 ^ w % 16
theorem win_next (e k : Nat) (hk : k < 64) : winV e (k + 1) = 16 * winV e k + digV e (63 - k) := by
  unfold winV digV
  have h1 : 64 - (k + 1) = 63 - k := by omega
  have h2 : 64 - k = (63 - k) + 1 := by omega
  rw [h1, h2, Nat.pow_succ, ← Nat.div_div_eq_div_mul]
  have := Nat.div_add_mod (e / 16 ^ (63 - k)) 16
  omega
theorem digV_lt (e w : Nat) : digV e w < 16 := Nat.mod_lt _ (by decide)
theorem digV_bits (e w : Nat) : e / 2 ^ (w * 4) % 2 ^ 4 = digV e w := by
  unfold digV
  rw [show (2 : Nat) ^ (w * 4) = 16 ^ w by rw [Nat.mul_comm, Nat.pow_mul]]

/-- Half of a number modulo an odd p. -/
def hvV (p a : Nat) : Nat := (a + (if a % 2 = 1 then p else 0)) / 2
theorem hvV_two {p a : Nat} (ho : p % 2 = 1) : 2 * hvV p a = a + (if a % 2 = 1 then p else 0) := by
  unfold hvV; split <;> omega
theorem hvV_lt {p a : Nat} (ha : a < p) : hvV p a < p := by
  unfold hvV; split <;> omega
def hvs (p a : Nat) : Nat → Nat
  | 0 => a
  | k + 1 => hvV p (hvs p a k)
theorem hvs_lt {p a : Nat} (ha : a < p) : ∀ k, hvs p a k < p
  | 0 => ha
  | k + 1 => hvV_lt (hvs_lt ha k)
theorem hvs_mod {p a : Nat} (ho : p % 2 = 1) : ∀ k, hvs p a k * 2 ^ k % p = a % p
  | 0 => by simp [hvs]
  | k + 1 => by
    have h := hvV_two (p := p) (a := hvs p a k) ho
    have e : hvs p a (k + 1) * 2 ^ (k + 1) = (2 * hvV p (hvs p a k)) * 2 ^ k := by
      show hvV p (hvs p a k) * 2 ^ (k + 1) = _
      rw [Nat.pow_succ, Nat.mul_comm (2 ^ k) 2, ← Nat.mul_assoc, Nat.mul_comm (hvV p (hvs p a k)) 2]
    rw [e, h, Nat.add_mul]
    have e2 : (if hvs p a k % 2 = 1 then p else 0) * 2 ^ k % p = 0 := by
      split
      · exact Nat.mul_mod_right _ _
      · simp
    rw [Nat.add_mod, e2, Nat.add_zero, Nat.mod_mod, hvs_mod ho k]
theorem hvs_value {p a : Nat} (h : Mp p) (ho : p % 2 = 1) (ha : a < p) : hvs p a 256 = mm p a 1 := by
  refine mm_of h (hvs_lt ha 256) ?_
  rw [r256_eq, hvs_mod ho, Nat.mul_one]

/-- Fermat's little theorem for p. -/
def Fer (p : Nat) : Prop := ∀ x, x % p ≠ 0 → x ^ (p - 1) % p = 1
theorem pow_ne {p : Nat} (h1 : 1 < p) (hf : Fer p) {x y : Nat} (hx : x % p ≠ 0) (hy : y % p ≠ 0) : x * y % p ≠ 0 := by
  intro h
  have h2 : (x * y) ^ (p - 1) % p = 1 := by rw [Nat.mul_pow, Nat.mul_mod, hf x hx, hf y hy, Nat.mul_one, Nat.mod_eq_of_lt h1]
  rw [Nat.pow_mod, h, Nat.zero_pow (by omega), Nat.zero_mod] at h2
  cases h2
theorem inv_mul {p : Nat} (h1 : 1 < p) (hf : Fer p) {x : Nat} (hx : x % p ≠ 0) : x * (x ^ (p - 2) % p) % p = 1 := by
  rw [Nat.mul_mod_mod, Nat.mul_comm, ← Nat.pow_succ, show (p - 2).succ = p - 1 by omega]
  exact hf x hx
theorem inv_zero {p : Nat} (h3 : 2 < p) : 0 ^ (p - 2) % p = 0 := by rw [Nat.zero_pow (by omega), Nat.zero_mod]
theorem inv_inv {p : Nat} (h3 : 2 < p) (hf : Fer p) {x : Nat} (hx : x < p) : (x ^ (p - 2) % p) ^ (p - 2) % p = x := by
  by_cases h0 : x = 0
  · subst h0; rw [inv_zero h3, inv_zero h3]
  · have hx0 : x % p ≠ 0 := by rw [Nat.mod_eq_of_lt hx]; exact h0
    obtain ⟨y, hy⟩ : ∃ y, y = x ^ (p - 2) % p := ⟨_, rfl⟩
    have e1 := inv_mul (by omega) hf hx0
    rw [← hy] at e1 ⊢
    have hy0 : y % p ≠ 0 := fun h => by rw [← Nat.mul_mod_mod, h, Nat.mul_zero, Nat.zero_mod] at e1; cases e1
    have e2 := inv_mul (by omega) hf hy0
    have e3 : x * (y * (y ^ (p - 2) % p)) % p = x := by rw [← Nat.mul_mod_mod, e2, Nat.mul_one, Nat.mod_eq_of_lt hx]
    rw [← Nat.mul_assoc, ← Nat.mod_mul_mod, e1, Nat.one_mul, Nat.mod_mod] at e3
    exact e3
theorem pow_p {p : Nat} (h1 : 1 < p) (hf : Fer p) {x : Nat} (hx : x < p) : x ^ p % p = x := by
  by_cases h0 : x = 0
  · subst h0; rw [Nat.zero_pow (by omega), Nat.zero_mod]
  · have hx0 : x % p ≠ 0 := by rw [Nat.mod_eq_of_lt hx]; exact h0
    have e : x ^ p = x ^ (p - 1) * x := by rw [← Nat.pow_succ, show (p - 1).succ = p by omega]
    rw [e, ← Nat.mod_mul_mod, hf x hx0, Nat.one_mul, Nat.mod_eq_of_lt hx]

/-- Batch's numbers: the factors, the products of the first of them, the inverse of all, which loses one after the other from the back. -/
def facV (v : Nat) : Nat := if v = 0 then 1 else v
def prdV (p : Nat) (vs : List Nat) : Nat → Nat
  | 0 => 1
  | k + 1 => prdV p vs k * facV (vs.getD k 0) % p
def rstV (p : Nat) (vs : List Nat) : Nat → Nat
  | 0 => prdV p vs vs.length ^ (p - 2) % p
  | k + 1 => rstV p vs k * facV (vs.getD (vs.length - 1 - k) 0) % p
def batV (p : Nat) (vs : List Nat) (i : Nat) : Nat := if vs.getD i 0 = 0 then 0 else prdV p vs i * rstV p vs (vs.length - 1 - i) % p
theorem facV_lt {p v : Nat} (h1 : 1 < p) (h : v < p) : facV v < p := by unfold facV; split <;> omega
theorem facV_ne {p v : Nat} (h1 : 1 < p) (h : v < p) : facV v % p ≠ 0 := by
  rw [Nat.mod_eq_of_lt (facV_lt h1 h)]; unfold facV; split <;> omega
theorem getD_lt {p : Nat} (h0 : 0 < p) {vs : List Nat} (h : ∀ v ∈ vs, v < p) (i : Nat) : vs.getD i 0 < p := by
  rw [List.getD_eq_getElem?_getD]
  by_cases hi : i < vs.length
  · rw [List.getElem?_eq_getElem hi]; exact h _ (List.getElem_mem hi)
  · rw [List.getElem?_eq_none (by omega)]; exact h0
theorem prdV_lt {p : Nat} (h1 : 1 < p) (vs : List Nat) : ∀ k, prdV p vs k < p
  | 0 => h1
  | _ + 1 => Nat.mod_lt _ (by omega)
theorem rstV_lt {p : Nat} (h1 : 1 < p) (vs : List Nat) : ∀ k, rstV p vs k < p
  | 0 => Nat.mod_lt _ (by omega)
  | _ + 1 => Nat.mod_lt _ (by omega)
theorem batV_lt {p : Nat} (h1 : 1 < p) (vs : List Nat) (i : Nat) : batV p vs i < p := by
  unfold batV; split
  · omega
  · exact Nat.mod_lt _ (by omega)
theorem prdV_ne {p : Nat} (h1 : 1 < p) (hf : Fer p) {vs : List Nat} (h : ∀ v ∈ vs, v < p) : ∀ k, prdV p vs k % p ≠ 0
  | 0 => by rw [prdV, Nat.mod_eq_of_lt h1]; decide
  | k + 1 => by
    rw [prdV, Nat.mod_mod]
    exact pow_ne h1 hf (prdV_ne h1 hf h k) (facV_ne h1 (getD_lt (by omega) h k))
theorem prd_rst {p : Nat} (h1 : 1 < p) (hf : Fer p) {vs : List Nat} (h : ∀ v ∈ vs, v < p) : ∀ k, k ≤ vs.length → prdV p vs (vs.length - k) * rstV p vs k % p = 1
  | 0, _ => by
    rw [rstV, Nat.sub_zero]
    exact inv_mul h1 hf (prdV_ne h1 hf h _)
  | k + 1, hk => by
    have ih := prd_rst h1 hf h k (by omega)
    have e : vs.length - k = (vs.length - (k + 1)) + 1 := by omega
    rw [e, prdV, Nat.mod_mul_mod] at ih
    rw [rstV, Nat.mul_mod_mod, show vs.length - 1 - k = vs.length - (k + 1) by omega]
    refine Eq.trans ?_ ih
    congr 1
    ac_rfl
theorem batV_zero (p : Nat) (vs : List Nat) {i : Nat} (h : vs.getD i 0 = 0) : batV p vs i = 0 := by unfold batV; rw [if_pos h]
theorem batV_inv {p : Nat} (h1 : 1 < p) (hf : Fer p) {vs : List Nat} (h : ∀ v ∈ vs, v < p) {i : Nat} (hi : i < vs.length) (h0 : vs.getD i 0 ≠ 0) : vs.getD i 0 * batV p vs i % p = 1 := by
  have e := prd_rst h1 hf h (vs.length - 1 - i) (by omega)
  rw [show vs.length - (vs.length - 1 - i) = i + 1 by omega, prdV, Nat.mod_mul_mod] at e
  unfold batV
  rw [if_neg h0, Nat.mul_mod_mod]
  refine Eq.trans ?_ e
  unfold facV
  rw [if_neg h0]
  congr 1
  ac_rfl
end Go.Proofs.YtclehgconbdkpaaDoor
