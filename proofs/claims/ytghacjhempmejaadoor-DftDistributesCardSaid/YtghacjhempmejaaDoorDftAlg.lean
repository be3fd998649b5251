/-
  The product of lists of integers is commutative and distributes over sums; a product with x. Plain facts.
-/
import Derived.Test.YtghacjhempmejaaDoorDftConv
namespace Go.Proofs.YtghacjhempmejaaDoor
set_option linter.unusedVariables false
theorem getD_out {l : List Int} {j : Nat} (h : l.length ≤ j) : l.getD j 0 = 0 := by
  rw [List.getD_eq_getElem?_getD, List.getElem?_eq_none h]; rfl
theorem tmC_is (a b : List Int) (i m : Nat) : tmC a b i m = if i ≤ m then a.getD i 0 * b.getD (m - i) 0 else 0 := by
  unfold tmC
  by_cases c : i ≤ m
  · by_cases d : m - i < b.length
    · rw [if_pos ⟨c, d⟩, if_pos c]
    · rw [if_neg (fun h => d h.2), if_pos c, getD_out (l := b) (by omega), Int.mul_zero]
  · rw [if_neg (fun h => c h.1), if_neg c]
theorem cvS_past (a b : List Int) (m : Nat) (n : Nat) (h : a.length ≤ n ∨ m + 1 ≤ n) : ∀ k, cvS a b m (n + k) = cvS a b m n
  | 0 => rfl
  | k + 1 => by
    show cvS a b m (n + k) + tmC a b (n + k) m = cvS a b m n
    rw [cvS_past a b m n h k, tmC_is]
    rcases h with h | h
    · rw [getD_out (l := a) (by omega), Int.zero_mul]; split <;> omega
    · rw [if_neg (by omega)]; omega
/-- A sum of integers. -/
def sumI : Nat → (Nat → Int) → Int
  | 0, _ => 0
  | n + 1, f => sumI n f + f n
theorem sumI_congr {n : Nat} {f g : Nat → Int} (h : ∀ k, k < n → f k = g k) : sumI n f = sumI n g := by
  induction n with
  | zero => rfl
  | succ n ih => unfold sumI; rw [ih (fun k hk => h k (by omega)), h n (by omega)]
theorem sumI_front (f : Nat → Int) : ∀ n, sumI (n + 1) f = f 0 + sumI n (fun k => f (k + 1))
  | 0 => by simp [sumI]
  | n + 1 => by
    rw [show sumI (n + 1 + 1) f = sumI (n + 1) f + f (n + 1) from rfl, sumI_front f n]
    rw [show sumI (n + 1) (fun k => f (k + 1)) = sumI n (fun k => f (k + 1)) + f (n + 1) from rfl]
    omega
theorem sumI_rev : ∀ (n : Nat) (f : Nat → Int), sumI n (fun k => f (n - 1 - k)) = sumI n f
  | 0, _ => rfl
  | n + 1, f => by
    rw [sumI_front]
    rw [show sumI (n + 1) f = sumI n f + f n from rfl, ← sumI_rev n f]
    rw [show n + 1 - 1 - 0 = n by omega, Int.add_comm]
    congr 1
    exact sumI_congr (fun k hk => by rw [show n + 1 - 1 - (k + 1) = n - 1 - k by omega])
theorem cvS_sum (a b : List Int) (m : Nat) : ∀ n, n ≤ m + 1 → cvS a b m n = sumI n (fun i => a.getD i 0 * b.getD (m - i) 0)
  | 0, _ => rfl
  | n + 1, h => by
    unfold cvS sumI
    rw [cvS_sum a b m n (by omega), tmC_is, if_pos (by omega)]
theorem cvS_low (a b : List Int) (m : Nat) : cvS a b m a.length = sumI (m + 1) (fun i => a.getD i 0 * b.getD (m - i) 0) := by
  rw [← cvS_sum a b m (m + 1) (Nat.le_refl _), ← cvS_past a b m a.length (.inl (Nat.le_refl _)) (m + 1), ← cvS_past a b m (m + 1) (.inr (Nat.le_refl _)) a.length, Nat.add_comm]
theorem cvS_comm (a b : List Int) (m : Nat) : cvS a b m a.length = cvS b a m b.length := by
  rw [cvS_low, cvS_low, ← sumI_rev]
  exact sumI_congr (fun k hk => by rw [show m + 1 - 1 - k = m - k by omega, show m - (m - k) = k by omega, Int.mul_comm])
theorem cvL_comm (a b : List Int) : cvL a b = cvL b a := by
  unfold cvL
  rw [Nat.add_comm]
  exact List.map_congr_left (fun m _ => cvS_comm a b m)
theorem mulE_comm (a b : List Int) : mulE a b = mulE b a := by
  unfold mulE
  by_cases c : 64 < a.length ∨ 64 < b.length
  · rw [if_pos c, if_pos c.symm]
  · rw [if_neg c, if_neg (show ¬ (64 < b.length ∨ 64 < a.length) from fun h => c h.symm)]
    by_cases d : oobC a = true ∨ oobC b = true
    · rw [if_pos d, if_pos d.symm]
    · rw [if_neg d, if_neg (fun h => d h.symm)]
theorem mulP_comm (a b : List Int) : mulP a b = mulP b a := by
  unfold mulP
  rw [mulE_comm a b, cvL_comm a b]
  by_cases c : mulE b a ≠ 0 ∨ a.length = 0 ∨ b.length = 0
  · rw [if_pos c, if_pos (c.elim .inl (fun h => h.elim (fun h => .inr (.inr h)) (fun h => .inr (.inl h))))]
  · rw [if_neg c, if_neg (fun h => c (h.elim .inl (fun h => h.elim (fun h => .inr (.inr h)) (fun h => .inr (.inl h)))))]
theorem cvL_shift (a : List Int) (h : 0 < a.length) : cvL a [0, 1] = 0 :: a := by
  rw [cvL_comm]
  unfold cvL
  apply List.ext_getElem?
  intro m
  have hl : ([0, 1] : List Int).length + a.length - 1 = a.length + 1 := by simp; omega
  rw [hl]
  by_cases hm : m < a.length + 1
  · rw [List.getElem?_map, List.getElem?_range hm]
    simp only [Option.map_some]
    have e : cvS [0, 1] a m ([0, 1] : List Int).length = tmC [0, 1] a 0 m + tmC [0, 1] a 1 m := by
      show cvS [0, 1] a m 2 = _
      unfold cvS cvS cvS
      omega
    rw [e, tmC_is, tmC_is]
    cases m with
    | zero => simp
    | succ m =>
      rw [List.getElem?_cons_succ, List.getElem?_eq_getElem (by omega)]
      simp [List.getD_eq_getElem?_getD, List.getElem?_eq_getElem (show m < a.length by omega)]
  · rw [List.getElem?_eq_none (by simp; omega), List.getElem?_eq_none (by simp; omega)]
theorem cvS_add (a b c s : List Int) (hb : b.length = s.length) (hc : c.length = s.length) (h : ∀ j, s.getD j 0 = b.getD j 0 + c.getD j 0) (m : Nat) : ∀ n, cvS a s m n = cvS a b m n + cvS a c m n
  | 0 => rfl
  | n + 1 => by
    unfold cvS
    rw [cvS_add a b c s hb hc h m n, tmC_is, tmC_is, tmC_is]
    by_cases d : n ≤ m
    · rw [if_pos d, if_pos d, if_pos d, h, Int.mul_add]; omega
    · rw [if_neg d, if_neg d, if_neg d]; omega
end Go.Proofs.YtghacjhempmejaaDoor
