/-
  The product of two lists of integers as polynomials, sum by sum. Plain facts; bounds where the elements have them.
-/
import Derived.Test.YtghacjhempmejaaDoorOff
namespace Go.Proofs.YtghacjhempmejaaDoor
/-- What the i-th element of a gives to the m-th of the product. -/
def tmC (a b : List Int) (i m : Nat) : Int := if i ≤ m ∧ m - i < b.length then a.getD i 0 * b.getD (m - i) 0 else 0
def cvS (a b : List Int) (m : Nat) : Nat → Int
  | 0 => 0
  | i + 1 => cvS a b m i + tmC a b i m
/-- The m-th element when the first i elements of a, and the first k of b with the next one, have been multiplied. -/
def cvK (a b : List Int) (i k m : Nat) : Int := cvS a b m i + if i ≤ m ∧ m - i < k then a.getD i 0 * b.getD (m - i) 0 else 0
def cvW (a b : List Int) (i k n : Nat) : List Int := (List.range n).map (cvK a b i k)
/-- The product. -/
def cvL (a b : List Int) : List Int := (List.range (a.length + b.length - 1)).map (fun m => cvS a b m a.length)
theorem cvK_zero (a b : List Int) (i m : Nat) : cvK a b i 0 m = cvS a b m i := by
  unfold cvK
  rw [if_neg (fun c => by omega), Int.add_zero]
theorem cvK_full (a b : List Int) (i m : Nat) : cvK a b i b.length m = cvS a b m (i + 1) := rfl
theorem cvW_length (a b : List Int) (i k n : Nat) : (cvW a b i k n).length = n := by simp [cvW]
theorem cvW_start (a b : List Int) (n : Nat) : cvW a b 0 0 n = List.replicate n 0 := by
  unfold cvW
  apply List.ext_getElem (by simp)
  intro j h1 h2
  rw [List.getElem_map, cvK_zero, List.getElem_replicate]; rfl
theorem cvW_row (a b : List Int) (i n : Nat) : cvW a b i b.length n = cvW a b (i + 1) 0 n := by
  unfold cvW
  exact List.map_congr_left (fun m _ => by rw [cvK_full, cvK_zero])
theorem cvW_end (a b : List Int) : cvW a b a.length 0 (a.length + b.length - 1) = cvL a b := by
  unfold cvW cvL
  exact List.map_congr_left (fun m _ => cvK_zero a b _ m)
theorem cvW_at (a b : List Int) (i k n m : Nat) (h : m < n) : (cvW a b i k n)[m]? = some (cvK a b i k m) := by
  unfold cvW
  rw [List.getElem?_map, List.getElem?_range h]; rfl
theorem cvW_set (a b : List Int) (i k n : Nat) (h : i + k < n) : (cvW a b i k n).set (i + k) (cvK a b i k (i + k) + a.getD i 0 * b.getD k 0) = cvW a b i (k + 1) n := by
  apply List.ext_getElem?
  intro m
  by_cases hm : m < n
  · rw [cvW_at a b i (k + 1) n m hm, List.getElem?_set]
    by_cases e : i + k = m
    · subst e
      rw [if_pos rfl, if_pos (by rw [cvW_length]; exact h)]
      unfold cvK
      rw [if_neg (fun c => by omega), if_pos (⟨by omega, by omega⟩ : i ≤ i + k ∧ i + k - i < k + 1), Int.add_zero, show i + k - i = k by omega]
    · rw [if_neg e, cvW_at a b i k n m hm]
      unfold cvK
      by_cases c : i ≤ m ∧ m - i < k
      · rw [if_pos c, if_pos ⟨c.1, by omega⟩]
      · rw [if_neg c, if_neg (fun d => c ⟨d.1, by omega⟩)]
  · rw [List.getElem?_eq_none (by rw [List.length_set, cvW_length]; omega), List.getElem?_eq_none (by rw [cvW_length]; omega)]
/-- Whether an element is out of range. -/
def oobC (l : List Int) : Bool := l.any (fun x => decide (x < -1000) || decide (1000 < x))
theorem oob_no {l : List Int} (h : ∀ x ∈ l, -1000 ≤ x ∧ x ≤ 1000) : oobC l = false := by
  unfold oobC
  rw [Bool.eq_false_iff]
  intro c
  rw [List.any_eq_true] at c
  obtain ⟨x, hx, e⟩ := c
  have := h x hx
  simp at e; omega
theorem oob_yes {l : List Int} {x : Int} (hx : x ∈ l) (h : x < -1000 ∨ 1000 < x) : oobC l = true := by
  unfold oobC
  rw [List.any_eq_true]
  exact ⟨x, hx, by simp; omega⟩
theorem oob_all {l : List Int} (h : oobC l = false) : ∀ x ∈ l, -1000 ≤ x ∧ x ≤ 1000 := fun x hx => by
  refine Classical.byContradiction (fun c => ?_)
  rw [oob_yes hx (by omega)] at h
  cases h
theorem getD_small {l : List Int} (h : ∀ x ∈ l, -1000 ≤ x ∧ x ≤ 1000) (i : Nat) : -1000 ≤ l.getD i 0 ∧ l.getD i 0 ≤ 1000 := by
  rw [List.getD_eq_getElem?_getD]
  cases e : l[i]? with
  | none => simp
  | some x => exact h x (List.mem_of_getElem? e)
theorem mul_small {x y : Int} (hx : -1000 ≤ x ∧ x ≤ 1000) (hy : -1000 ≤ y ∧ y ≤ 1000) : -1000000 ≤ x * y ∧ x * y ≤ 1000000 := by
  have h := Int.natAbs_mul x y
  have h1 : x.natAbs * y.natAbs ≤ 1000 * 1000 := Nat.mul_le_mul (by omega) (by omega)
  omega
theorem cvS_small {a b : List Int} (ha : ∀ x ∈ a, -1000 ≤ x ∧ x ≤ 1000) (hb : ∀ x ∈ b, -1000 ≤ x ∧ x ≤ 1000) (m : Nat) : ∀ i : Nat, -(1000000 * (i : Int)) ≤ cvS a b m i ∧ cvS a b m i ≤ 1000000 * (i : Int)
  | 0 => by simp [cvS]
  | i + 1 => by
    have h := cvS_small ha hb m i
    have h2 : -1000000 ≤ tmC a b i m ∧ tmC a b i m ≤ 1000000 := by
      unfold tmC
      split
      · exact mul_small (getD_small ha i) (getD_small hb _)
      · omega
    unfold cvS
    omega
theorem cvK_small {a b : List Int} (ha : ∀ x ∈ a, -1000 ≤ x ∧ x ≤ 1000) (hb : ∀ x ∈ b, -1000 ≤ x ∧ x ≤ 1000) (i k m : Nat) : -(1000000 * ((i : Int) + 1)) ≤ cvK a b i k m ∧ cvK a b i k m ≤ 1000000 * ((i : Int) + 1) := by
  have h := cvS_small ha hb m i
  have h2 : -1000000 ≤ (if i ≤ m ∧ m - i < k then a.getD i 0 * b.getD (m - i) 0 else 0) ∧ (if i ≤ m ∧ m - i < k then a.getD i 0 * b.getD (m - i) 0 else 0) ≤ 1000000 := by
    split
    · exact mul_small (getD_small ha i) (getD_small hb _)
    · omega
  unfold cvK
  omega
/-- What Multiply answers. -/
def mulE (a b : List Int) : Int := if 64 < a.length ∨ 64 < b.length then 8 else if oobC a = true ∨ oobC b = true then 19 else 0
def mulP (a b : List Int) : List Int := if mulE a b ≠ 0 ∨ a.length = 0 ∨ b.length = 0 then [] else cvL a b
end Go.Proofs.YtghacjhempmejaaDoor
