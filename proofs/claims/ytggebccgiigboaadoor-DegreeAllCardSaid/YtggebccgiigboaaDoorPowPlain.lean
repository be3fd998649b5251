/-
  Powers, windows of an exponent, halvings and inverses of Montgomery forms as plain numbers. Conditions: as each says.
-/
import Derived.Test.YtggebccgiigboaaDoorMontPlain
namespace Go.Proofs.YtggebccgiigboaaDoor

theorem fm_inj {p x y : Nat} (h : Mp p) (hx : x < p) (hy : y < p) (e : fm p x = fm p y) : x = y := by
 have h1 := mm_one h x
 rw [e,mm_one h y,Nat.mod_eq_of_lt hx,Nat.mod_eq_of_lt hy] at h1
 exact h1.symm
/-- The product of two powers' forms. -/
theorem pow_mm {p : Nat} (h : Mp p) (v m n : Nat) : mm p (fm p (v ^ m % p)) (fm p (v ^ n % p)) = fm p (v ^ (m + n) % p) := by
 rw [mm_fm h,<- Nat.mul_mod,<- Nat.pow_add]
theorem pow_mm1 {p : Nat} (h : Mp p) (v m : Nat) : mm p (fm p (v ^ m % p)) (fm p v) = fm p (v ^ (m + 1) % p) := by
 rw [mm_fm h,Nat.mod_mul_mod,<- Nat.pow_succ]
theorem pow_zero_fm (p v : Nat) : fm p (v ^ 0 % p) = radV p 256 := by rw [Nat.pow_zero,fm_mod,fm_one]

/-- The exponent's first k windows of four bits. -/
def winV (e k : Nat) : Nat := e / 16 ^ (64 - k)
theorem r256_win : R256 = 16 ^ 64 := by decide +kernel
theorem win_zero {e : Nat} (he : e < R256) : winV e 0 = 0 := by
 unfold winV; rw [r256_win] at he; exact Nat.div_eq_of_lt he
theorem win_full (e : Nat) : winV e 64 = e := by unfold winV; simp
/-- The window with the number w,0 the lowest. -/
def digV (e w : Nat) : Nat := e / 16 ^ w % 16
theorem win_next (e k : Nat) (hk : k < 64) : winV e (k + 1) = 16 * winV e k + digV e (63 - k) := by
 unfold winV digV
 have h1 : 64 - (k + 1) = 63 - k := by omega
 have h2 : 64 - k = (63 - k) + 1 := by omega
 rw [h1,h2,Nat.pow_succ,<- Nat.div_div_eq_div_mul]
 have := Nat.div_add_mod (e / 16 ^ (63 - k)) 16
 omega
theorem digV_lt (e w : Nat) : digV e w < 16 := Nat.mod_lt _ (by decide)
theorem digV_bits (e w : Nat) : e / 2 ^ (w * 4) % 2 ^ 4 = digV e w := by
 unfold digV
 rw [show (2 : Nat) ^ (w * 4) = 16 ^ w by rw [Nat.mul_comm,Nat.pow_mul]]

/-- Half of a number modulo an odd p. -/
def hvV (p a : Nat) : Nat := (a + (if a % 2 = 1 then p else 0)) / 2
def hvs (p a : Nat) : Nat -> Nat
 | 0 => a
 | k + 1 => hvV p (hvs p a k)
/-- Fermat's little theorem for p. -/
def Fer (p : Nat) : Prop := ∀ x,x % p ≠ 0 -> x ^ (p - 1) % p = 1
theorem pow_ne {p : Nat} (h1 : 1 < p) (hf : Fer p) {x y : Nat} (hx : x % p ≠ 0) (hy : y % p ≠ 0) : x * y % p ≠ 0 := by
 intro h
 have h2 : (x * y) ^ (p - 1) % p = 1 := by rw [Nat.mul_pow,Nat.mul_mod,hf x hx,hf y hy,Nat.mul_one,Nat.mod_eq_of_lt h1]
 rw [Nat.pow_mod,h,Nat.zero_pow (by omega),Nat.zero_mod] at h2
 cases h2
theorem inv_mul {p : Nat} (h1 : 1 < p) (hf : Fer p) {x : Nat} (hx : x % p ≠ 0) : x * (x ^ (p - 2) % p) % p = 1 := by
 rw [Nat.mul_mod_mod,Nat.mul_comm,<- Nat.pow_succ,show (p - 2).succ = p - 1 by omega]
 exact hf x hx
theorem inv_zero {p : Nat} (h3 : 2 < p) : 0 ^ (p - 2) % p = 0 := by rw [Nat.zero_pow (by omega),Nat.zero_mod]
/-- Batch's numbers: the factors,the products of the first of them,the inverse of all,which loses one after the other from the back. -/
def facV (v : Nat) : Nat := if v = 0 then 1 else v
def prdV (p : Nat) (vs : List Nat) : Nat -> Nat
 | 0 => 1
 | k + 1 => prdV p vs k * facV (vs.getD k 0) % p
def rstV (p : Nat) (vs : List Nat) : Nat -> Nat
 | 0 => prdV p vs vs.length ^ (p - 2) % p
 | k + 1 => rstV p vs k * facV (vs.getD (vs.length - 1 - k) 0) % p
def batV (p : Nat) (vs : List Nat) (i : Nat) : Nat := if vs.getD i 0 = 0 then 0 else prdV p vs i * rstV p vs (vs.length - 1 - i) % p
theorem facV_lt {p v : Nat} (h1 : 1 < p) (h : v < p) : facV v < p := by unfold facV; split <;> omega
theorem facV_ne {p v : Nat} (h1 : 1 < p) (h : v < p) : facV v % p ≠ 0 := by
 rw [Nat.mod_eq_of_lt (facV_lt h1 h)]; unfold facV; split <;> omega
theorem getD_lt {p : Nat} (h0 : 0 < p) {vs : List Nat} (h : ∀ v ∈ vs,v < p) (i : Nat) : vs.getD i 0 < p := by
 rw [List.getD_eq_getElem?_getD]
 by_cases hi : i < vs.length
 ·rw [List.getElem?_eq_getElem hi]; exact h _ (List.getElem_mem hi)
 ·rw [List.getElem?_eq_none (by omega)]; exact h0
theorem batV_lt {p : Nat} (h1 : 1 < p) (vs : List Nat) (i : Nat) : batV p vs i < p := by
 unfold batV; split
 ·omega
 ·exact Nat.mod_lt _ (by omega)
theorem prdV_ne {p : Nat} (h1 : 1 < p) (hf : Fer p) {vs : List Nat} (h : ∀ v ∈ vs,v < p) : ∀ k,prdV p vs k % p ≠ 0
 | 0 => by rw [prdV,Nat.mod_eq_of_lt h1]; decide
 | k + 1 => by
  rw [prdV,Nat.mod_mod]
  exact pow_ne h1 hf (prdV_ne h1 hf h k) (facV_ne h1 (getD_lt (by omega) h k))
theorem prd_rst {p : Nat} (h1 : 1 < p) (hf : Fer p) {vs : List Nat} (h : ∀ v ∈ vs,v < p) : ∀ k,k <= vs.length -> prdV p vs (vs.length - k) * rstV p vs k % p = 1
 | 0,_ => by
  rw [rstV,Nat.sub_zero]
  exact inv_mul h1 hf (prdV_ne h1 hf h _)
 | k + 1,hk => by
  have ih := prd_rst h1 hf h k (by omega)
  have e : vs.length - k = (vs.length - (k + 1)) + 1 := by omega
  rw [e,prdV,Nat.mod_mul_mod] at ih
  rw [rstV,Nat.mul_mod_mod,show vs.length - 1 - k = vs.length - (k + 1) by omega]
  refine Eq.trans ?_ ih
  congr 1
  ac_rfl
theorem batV_zero (p : Nat) (vs : List Nat) {i : Nat} (h : vs.getD i 0 = 0) : batV p vs i = 0 := by unfold batV; rw [if_pos h]
theorem batV_inv {p : Nat} (h1 : 1 < p) (hf : Fer p) {vs : List Nat} (h : ∀ v ∈ vs,v < p) {i : Nat} (hi : i < vs.length) (h0 : vs.getD i 0 ≠ 0) : vs.getD i 0 * batV p vs i % p = 1 := by
 have e := prd_rst h1 hf h (vs.length - 1 - i) (by omega)
 rw [show vs.length - (vs.length - 1 - i) = i + 1 by omega,prdV,Nat.mod_mul_mod] at e
 unfold batV
 rw [if_neg h0,Nat.mul_mod_mod]
 refine Eq.trans ?_ e
 unfold facV
 rw [if_neg h0]
 congr 1
 ac_rfl
end Go.Proofs.YtggebccgiigboaaDoor
-- squeezed
