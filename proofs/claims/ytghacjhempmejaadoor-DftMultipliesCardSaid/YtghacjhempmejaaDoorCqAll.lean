/-
  Complex numbers of rational parts: sums, products, and how near they are to each other. Plain facts.
  Transforms by numbers that are nearly the powers of a root of unity: of a product, and back. Conditions: Rts (how nearly), bounds on the elements.
-/
import Derived.Test.YtghacjhempmejaaDoorFltAll
namespace Go.Proofs.YtghacjhempmejaaDoor
section
/-- A complex number of rational parts. -/
structure CQ where
  re : Rat
  im : Rat
theorem CQ.eq {z w : CQ} (h1 : z.re = w.re) (h2 : z.im = w.im) : z = w := by
  cases z; cases w; simp only at h1 h2; rw [h1, h2]
def CQ.add (z w : CQ) : CQ := ⟨z.re + w.re, z.im + w.im⟩
def CQ.sub (z w : CQ) : CQ := ⟨z.re - w.re, z.im - w.im⟩
def CQ.mul (z w : CQ) : CQ := ⟨z.re * w.re - z.im * w.im, z.re * w.im + z.im * w.re⟩
def CQ.sc (r : Rat) (z : CQ) : CQ := ⟨r * z.re, r * z.im⟩
def CQ.zero : CQ := ⟨0, 0⟩
def CQ.one : CQ := ⟨1, 0⟩
theorem CQ.add_comm (z w : CQ) : z.add w = w.add z := CQ.eq (by simp only [CQ.add]; grind) (by simp only [CQ.add]; grind)
theorem CQ.add_assoc (z w u : CQ) : (z.add w).add u = z.add (w.add u) := CQ.eq (by simp only [CQ.add]; grind) (by simp only [CQ.add]; grind)
theorem CQ.add_swap (a b c d : CQ) : (a.add b).add (c.add d) = (a.add c).add (b.add d) := CQ.eq (by simp only [CQ.add]; grind) (by simp only [CQ.add]; grind)
theorem CQ.add_zero (z : CQ) : z.add CQ.zero = z := CQ.eq (by simp only [CQ.add, CQ.zero]; grind) (by simp only [CQ.add, CQ.zero]; grind)
theorem CQ.zero_add (z : CQ) : CQ.zero.add z = z := CQ.eq (by simp only [CQ.add, CQ.zero]; grind) (by simp only [CQ.add, CQ.zero]; grind)
theorem CQ.mul_comm (z w : CQ) : z.mul w = w.mul z := CQ.eq (by simp only [CQ.mul]; grind) (by simp only [CQ.mul]; grind)
theorem CQ.mul_assoc (z w u : CQ) : (z.mul w).mul u = z.mul (w.mul u) := CQ.eq (by simp only [CQ.mul]; grind) (by simp only [CQ.mul]; grind)
theorem CQ.mul_add (z w u : CQ) : z.mul (w.add u) = (z.mul w).add (z.mul u) := CQ.eq (by simp only [CQ.mul, CQ.add]; grind) (by simp only [CQ.mul, CQ.add]; grind)
theorem CQ.add_mul (z w u : CQ) : (z.add w).mul u = (z.mul u).add (w.mul u) := CQ.eq (by simp only [CQ.mul, CQ.add]; grind) (by simp only [CQ.mul, CQ.add]; grind)
theorem CQ.mul_zero (z : CQ) : z.mul CQ.zero = CQ.zero := CQ.eq (by simp only [CQ.mul, CQ.zero]; grind) (by simp only [CQ.mul, CQ.zero]; grind)
theorem CQ.zero_mul (z : CQ) : CQ.zero.mul z = CQ.zero := CQ.eq (by simp only [CQ.mul, CQ.zero]; grind) (by simp only [CQ.mul, CQ.zero]; grind)
theorem CQ.sc_add (r : Rat) (z w : CQ) : (z.add w).sc r = (z.sc r).add (w.sc r) := CQ.eq (by simp only [CQ.sc, CQ.add]; grind) (by simp only [CQ.sc, CQ.add]; grind)
theorem CQ.sc_zero (r : Rat) : CQ.zero.sc r = CQ.zero := CQ.eq (by simp only [CQ.sc, CQ.zero]; grind) (by simp only [CQ.sc, CQ.zero]; grind)
theorem CQ.sc_mul (r s : Rat) (z w : CQ) : (z.sc r).mul (w.sc s) = (z.mul w).sc (r * s) := CQ.eq (by simp only [CQ.sc, CQ.mul]; grind) (by simp only [CQ.sc, CQ.mul]; grind)
theorem CQ.sc_mul_right (r : Rat) (z w : CQ) : (z.sc r).mul w = (z.mul w).sc r := CQ.eq (by simp only [CQ.sc, CQ.mul]; grind) (by simp only [CQ.sc, CQ.mul]; grind)
/-- Both parts are at most e, without their signs. -/
def Nr (z : CQ) (e : Rat) : Prop := Ab z.re e ∧ Ab z.im e
theorem Nr.mono {z : CQ} {e f : Rat} (h : Nr z e) (hf : e ≤ f) : Nr z f := ⟨h.1.mono hf, h.2.mono hf⟩
theorem Nr.add {z w : CQ} {e f : Rat} (h : Nr z e) (k : Nr w f) : Nr (z.add w) (e + f) := ⟨h.1.add k.1, h.2.add k.2⟩
theorem Nr.sub {z w : CQ} {e f : Rat} (h : Nr z e) (k : Nr w f) : Nr (z.sub w) (e + f) := ⟨h.1.sub k.1, h.2.sub k.2⟩
theorem Nr.mul {z w : CQ} {e f : Rat} (h : Nr z e) (k : Nr w f) : Nr (z.mul w) (2 * (e * f)) := by
  have a := (h.1.mul k.1).sub (h.2.mul k.2)
  have b := (h.1.mul k.2).add (h.2.mul k.1)
  have e1 : e * f + e * f = 2 * (e * f) := by grind
  rw [e1] at a b
  exact ⟨a, b⟩
theorem Nr.sc {z : CQ} {e r R : Rat} (h : Nr z e) (k : Ab r R) : Nr (z.sc r) (R * e) := ⟨k.mul h.1, k.mul h.2⟩
theorem Nr.zero : Nr CQ.zero 0 := ⟨Ab.zero, Ab.zero⟩
theorem Nr.nonneg {z : CQ} {e : Rat} (h : Nr z e) : 0 ≤ e := h.1.nonneg
/-- A sum of n terms. -/
def sumC : Nat → (Nat → CQ) → CQ
  | 0, _ => CQ.zero
  | n + 1, f => (sumC n f).add (f n)
theorem sumC_congr {n : Nat} {f g : Nat → CQ} (h : ∀ k, k < n → f k = g k) : sumC n f = sumC n g := by
  induction n with
  | zero => rfl
  | succ n ih => unfold sumC; rw [ih (fun k hk => h k (by omega)), h n (by omega)]
theorem sumC_add (n : Nat) (f g : Nat → CQ) : sumC n (fun k => (f k).add (g k)) = (sumC n f).add (sumC n g) := by
  induction n with
  | zero => exact (CQ.add_zero _).symm
  | succ n ih => simp only [sumC]; rw [ih, CQ.add_swap]
theorem sumC_zero (n : Nat) : sumC n (fun _ => CQ.zero) = CQ.zero := by
  induction n with
  | zero => rfl
  | succ n ih => simp only [sumC]; rw [ih, CQ.add_zero]
theorem sumC_mul (n : Nat) (f : Nat → CQ) (z : CQ) : (sumC n f).mul z = sumC n (fun k => (f k).mul z) := by
  induction n with
  | zero => exact CQ.zero_mul z
  | succ n ih => simp only [sumC]; rw [CQ.add_mul, ih]
theorem mul_sumC (n : Nat) (f : Nat → CQ) (z : CQ) : z.mul (sumC n f) = sumC n (fun k => z.mul (f k)) := by
  induction n with
  | zero => exact CQ.mul_zero z
  | succ n ih => simp only [sumC]; rw [CQ.mul_add, ih]
theorem sumC_sc (n : Nat) (f : Nat → CQ) (r : Rat) : (sumC n f).sc r = sumC n (fun k => (f k).sc r) := by
  induction n with
  | zero => exact CQ.sc_zero r
  | succ n ih => simp only [sumC]; rw [CQ.sc_add, ih]
theorem sumC_comm (m n : Nat) (f : Nat → Nat → CQ) : sumC m (fun i => sumC n (fun j => f i j)) = sumC n (fun j => sumC m (fun i => f i j)) := by
  induction m with
  | zero => simp only [sumC]; rw [sumC_zero]
  | succ m ih => simp only [sumC]; rw [ih, sumC_add]
theorem sumC_nr {n : Nat} {f : Nat → CQ} {e : Rat} (h : ∀ k, k < n → Nr (f k) e) : Nr (sumC n f) ((n : Rat) * e) := by
  induction n with
  | zero =>
    have e0 : ((0 : Nat) : Rat) * e = 0 := by rw [show ((0 : Nat) : Rat) = 0 from rfl]; grind
    rw [e0]; exact Nr.zero
  | succ n ih =>
    have h1 := (ih (fun k hk => h k (by omega))).add (h n (by omega))
    have e1 : (n : Rat) * e + e = ((n + 1 : Nat) : Rat) * e := by rw [Rat.natCast_add, show ((1 : Nat) : Rat) = 1 from rfl]; grind
    rw [e1] at h1
    exact h1
/-- z is within e of w. -/
def Cl (z w : CQ) (e : Rat) : Prop := Nr (z.sub w) e
theorem Cl.refl (z : CQ) : Cl z z 0 := by
  unfold Cl Nr CQ.sub
  simp only
  exact ⟨by rw [show z.re - z.re = 0 by grind]; exact Ab.zero, by rw [show z.im - z.im = 0 by grind]; exact Ab.zero⟩
theorem Cl.mono {z w : CQ} {e f : Rat} (h : Cl z w e) (hf : e ≤ f) : Cl z w f := Nr.mono h hf
theorem Cl.trans {z w u : CQ} {e f : Rat} (h : Cl z w e) (k : Cl w u f) : Cl z u (e + f) := by
  have a := Nr.add h k
  have e1 : (z.sub w).add (w.sub u) = z.sub u := CQ.eq (by simp only [CQ.sub, CQ.add]; grind) (by simp only [CQ.sub, CQ.add]; grind)
  rw [e1] at a; exact a
theorem Cl.symm {z w : CQ} {e : Rat} (h : Cl z w e) : Cl w z e := by
  obtain ⟨h1, h2⟩ := h
  refine ⟨?_, ?_⟩
  · have := h1.neg
    rw [show -(z.sub w).re = (w.sub z).re by simp only [CQ.sub]; grind] at this; exact this
  · have := h2.neg
    rw [show -(z.sub w).im = (w.sub z).im by simp only [CQ.sub]; grind] at this; exact this
theorem Cl.add {z w u v : CQ} {e f : Rat} (h : Cl z w e) (k : Cl u v f) : Cl (z.add u) (w.add v) (e + f) := by
  have a := Nr.add h k
  have e1 : (z.sub w).add (u.sub v) = (z.add u).sub (w.add v) := CQ.eq (by simp only [CQ.sub, CQ.add]; grind) (by simp only [CQ.sub, CQ.add]; grind)
  rw [e1] at a; exact a
theorem Cl.mul {z w u v : CQ} {e f P Q : Rat} (h : Cl z w e) (k : Cl u v f) (hz : Nr z P) (hv : Nr v Q) : Cl (z.mul u) (w.mul v) (2 * (P * f) + 2 * (e * Q)) := by
  have a := Nr.add (Nr.mul hz k) (Nr.mul h hv)
  have e1 : (z.mul (u.sub v)).add ((z.sub w).mul v) = (z.mul u).sub (w.mul v) := CQ.eq (by simp only [CQ.sub, CQ.add, CQ.mul]; grind) (by simp only [CQ.sub, CQ.add, CQ.mul]; grind)
  rw [e1] at a; exact a
theorem Cl.sc {z w : CQ} {e r R : Rat} (h : Cl z w e) (k : Ab r R) : Cl (z.sc r) (w.sc r) (R * e) := by
  have a := Nr.sc h k
  have e1 : (z.sub w).sc r = (z.sc r).sub (w.sc r) := CQ.eq (by simp only [CQ.sub, CQ.sc]; grind) (by simp only [CQ.sub, CQ.sc]; grind)
  rw [e1] at a; exact a
theorem Cl.sum {n : Nat} {f g : Nat → CQ} {e : Rat} (h : ∀ k, k < n → Cl (f k) (g k) e) : Cl (sumC n f) (sumC n g) ((n : Rat) * e) := by
  have a := sumC_nr (f := fun k => (f k).sub (g k)) h
  have e1 : sumC n (fun k => (f k).sub (g k)) = (sumC n f).sub (sumC n g) := by
    clear a h
    induction n with
    | zero => exact CQ.eq (by simp only [sumC, CQ.sub, CQ.zero]; grind) (by simp only [sumC, CQ.sub, CQ.zero]; grind)
    | succ n ih => simp only [sumC]; rw [ih]; exact CQ.eq (by simp only [CQ.sub, CQ.add]; grind) (by simp only [CQ.sub, CQ.add]; grind)
  rw [e1] at a; exact a
end
section
/-- Numbers that are nearly the powers of a root of unity: N of them. -/
structure Rts (N : Nat) (C : Nat → CQ) (d d2 : Rat) : Prop where
  pos : 0 < N
  nn : 0 ≤ d2
  one : C 0 = CQ.one
  small : ∀ a, a < N → Nr (C a) 2
  mul : ∀ a b, a < N → b < N → Cl ((C a).mul (C b)) (C ((a + b) % N)) d
  sum : ∀ j, 0 < j → j < N → Nr (sumC N (fun k => C (j * k % N))) d2
section
variable {N : Nat} {C : Nat → CQ} {d d2 : Rat}
theorem Rts.three (h : Rts N C d d2) (i j l k : Nat) : Cl (((C (i * k % N)).mul (C (j * k % N))).mul (C (l * k % N))) (C ((i + j + l) % N * k % N)) (5 * d) := by
  have hm : ∀ x, x % N < N := fun x => Nat.mod_lt _ h.pos
  have a1 := h.mul (i * k % N) (j * k % N) (hm _) (hm _)
  rw [← Nat.add_mod, ← Nat.add_mul] at a1
  have a2 := Cl.mul a1 (Cl.refl (C (l * k % N))) ((h.small _ (hm (i * k))).mul (h.small _ (hm (j * k)))) (h.small _ (hm (l * k)))
  have a3 := h.mul ((i + j) * k % N) (l * k % N) (hm _) (hm _)
  rw [← Nat.add_mod, ← Nat.add_mul] at a3
  have a4 := a2.trans a3
  rw [Nat.mod_mul_mod]
  exact a4.mono (by grind)
theorem sum_one (n : Nat) : sumC n (fun _ => CQ.one) = ⟨(n : Rat), 0⟩ := by
  induction n with
  | zero => rfl
  | succ n ih =>
    simp only [sumC]
    rw [ih]
    exact CQ.eq (by simp only [CQ.add, CQ.one]; rw [Rat.natCast_add]; rfl) (by simp only [CQ.add, CQ.one]; grind)
theorem Rts.triple (h : Rts N C d d2) (i j l : Nat) : Cl (sumC N (fun k => ((C (i * k % N)).mul (C (j * k % N))).mul (C (l * k % N)))) (if (i + j + l) % N = 0 then ⟨(N : Rat), 0⟩ else CQ.zero) ((N : Rat) * (5 * d) + d2) := by
  have a1 : Cl _ _ _ := Cl.sum (n := N) (fun k _ => h.three i j l k)
  by_cases h0 : (i + j + l) % N = 0
  · rw [if_pos h0]
    have e : sumC N (fun k => C ((i + j + l) % N * k % N)) = ⟨(N : Rat), 0⟩ := by
      rw [← sum_one]
      exact sumC_congr (fun k _ => by rw [h0, Nat.zero_mul, Nat.zero_mod, h.one])
    rw [e] at a1
    exact a1.mono (by have := h.nn; grind)
  · rw [if_neg h0]
    have a2 : Cl (sumC N (fun k => C ((i + j + l) % N * k % N))) CQ.zero d2 := by
      have := h.sum _ (Nat.pos_of_ne_zero h0) (Nat.mod_lt _ h.pos)
      unfold Cl
      rw [show (sumC N (fun k => C ((i + j + l) % N * k % N))).sub CQ.zero = sumC N (fun k => C ((i + j + l) % N * k % N)) from CQ.eq (by simp only [CQ.sub, CQ.zero]; grind) (by simp only [CQ.sub, CQ.zero]; grind)]
      exact this
    exact a1.trans a2
/-- The k-th element of the transform of x, which has m elements. -/
def trC (N : Nat) (C : Nat → CQ) (x : Nat → Rat) (m k : Nat) : CQ := sumC m (fun i => (C (i * k % N)).sc (x i))
theorem tr_prod (x y : Nat → Rat) (m n k : Nat) (z : CQ) : ((trC N C x m k).mul (trC N C y n k)).mul z = sumC m (fun i => sumC n (fun j => (((C (i * k % N)).mul (C (j * k % N))).mul z).sc (x i * y j))) := by
  unfold trC
  rw [sumC_mul, sumC_mul]
  refine sumC_congr (fun i _ => ?_)
  rw [mul_sumC, sumC_mul]
  refine sumC_congr (fun j _ => ?_)
  rw [CQ.sc_mul, CQ.sc_mul_right]
/-- The inverse transform of the product of transforms, N times, at the place whose power is l. -/
theorem Rts.conv (h : Rts N C d d2) (x y : Nat → Rat) (m n l : Nat) (R : Rat) (hx : ∀ i, i < m → Ab (x i) R) (hy : ∀ j, j < n → Ab (y j) R) :
    Cl (sumC N (fun k => ((trC N C x m k).mul (trC N C y n k)).mul (C (l * k % N)))) (sumC m (fun i => sumC n (fun j => (if (i + j + l) % N = 0 then (⟨(N : Rat), 0⟩ : CQ) else CQ.zero).sc (x i * y j)))) ((m : Rat) * ((n : Rat) * (R * R * ((N : Rat) * (5 * d) + d2)))) := by
  have e : sumC N (fun k => ((trC N C x m k).mul (trC N C y n k)).mul (C (l * k % N))) = sumC m (fun i => sumC n (fun j => (sumC N (fun k => ((C (i * k % N)).mul (C (j * k % N))).mul (C (l * k % N)))).sc (x i * y j))) := by
    rw [sumC_congr (fun k _ => tr_prod x y m n k (C (l * k % N))), sumC_comm]
    refine sumC_congr (fun i _ => ?_)
    rw [sumC_comm]
    refine sumC_congr (fun j _ => ?_)
    rw [sumC_sc]
  rw [e]
  refine Cl.sum (fun i hi => Cl.sum (fun j hj => ?_))
  exact (h.triple i j l).sc ((hx i hi).mul (hy j hj))
/-- A sum of rational numbers. -/
def sumR : Nat → (Nat → Rat) → Rat
  | 0, _ => 0
  | n + 1, f => sumR n f + f n
theorem sumC_re (n : Nat) (f : Nat → CQ) : (sumC n f).re = sumR n (fun k => (f k).re) := by
  induction n with
  | zero => rfl
  | succ n ih => simp only [sumC, sumR, CQ.add]; rw [ih]
theorem sumR_congr {n : Nat} {f g : Nat → Rat} (h : ∀ k, k < n → f k = g k) : sumR n f = sumR n g := by
  induction n with
  | zero => rfl
  | succ n ih => unfold sumR; rw [ih (fun k hk => h k (by omega)), h n (by omega)]
theorem sumR_one (n : Nat) (f : Nat → Rat) (a : Nat) (h : ∀ k, k < n → k ≠ a → f k = 0) : sumR n f = if a < n then f a else 0 := by
  induction n with
  | zero => rw [if_neg (by omega)]; rfl
  | succ n ih =>
    unfold sumR
    rw [ih (fun k hk => h k (by omega))]
    by_cases e : a = n
    · subst e
      rw [if_neg (by omega), if_pos (by omega)]; grind
    · rw [h n (by omega) (fun c => e c.symm)]
      by_cases c : a < n
      · rw [if_pos c, if_pos (by omega)]; grind
      · rw [if_neg c, if_neg (by omega)]; grind
theorem sumR_mul (n : Nat) (f : Nat → Rat) (r : Rat) : sumR n (fun k => r * f k) = r * sumR n f := by
  induction n with
  | zero => simp only [sumR]; grind
  | succ n ih => simp only [sumR]; rw [ih]; grind
/-- Of the exact sums, the real part: N times the element of the product. -/
theorem conv_re (x y : Nat → Rat) (m n l q : Nat) (hl : ∀ i j, i < m → j < n → ((i + j + l) % N = 0 ↔ i + j = q)) :
    (sumC m (fun i => sumC n (fun j => (if (i + j + l) % N = 0 then (⟨(N : Rat), 0⟩ : CQ) else CQ.zero).sc (x i * y j)))).re = (N : Rat) * sumR m (fun i => if i ≤ q ∧ q - i < n then x i * y (q - i) else 0) := by
  rw [sumC_re, ← sumR_mul]
  refine sumR_congr (fun i hi => ?_)
  rw [sumC_re]
  rw [sumR_one n _ (q - i) (fun j hj hne => by
    by_cases c : (i + j + l) % N = 0
    · have := (hl i j hi hj).1 c
      omega
    · rw [if_neg c]; simp only [CQ.sc, CQ.zero]; grind)]
  by_cases c : q - i < n
  · rw [if_pos c]
    by_cases c2 : i ≤ q
    · rw [if_pos ((hl i (q - i) hi c).2 (by omega)), if_pos (show i ≤ q ∧ q - i < n from ⟨c2, c⟩)]
      simp only [CQ.sc]; grind
    · rw [if_neg (show ¬ (i + (q - i) + l) % N = 0 from fun e => by have := (hl i (q - i) hi c).1 e; omega), if_neg (show ¬ (i ≤ q ∧ q - i < n) from fun e => c2 e.1)]
      simp only [CQ.sc, CQ.zero]; grind
  · rw [if_neg c, if_neg (fun e => c e.2)]; grind
theorem Rts.pair (h : Rts N C d d2) (j l : Nat) : Cl (sumC N (fun k => (C (j * k % N)).mul (C (l * k % N)))) (if (j + l) % N = 0 then ⟨(N : Rat), 0⟩ else CQ.zero) ((N : Rat) * d + d2) := by
  have hm : ∀ x, x % N < N := fun x => Nat.mod_lt _ h.pos
  have a1 : Cl _ _ _ := Cl.sum (n := N) (f := fun k => (C (j * k % N)).mul (C (l * k % N))) (g := fun k => C ((j + l) % N * k % N)) (fun k _ => by
    have a := h.mul (j * k % N) (l * k % N) (hm _) (hm _)
    rw [← Nat.add_mod, ← Nat.add_mul] at a
    rw [Nat.mod_mul_mod]
    exact a)
  by_cases h0 : (j + l) % N = 0
  · rw [if_pos h0]
    have e : sumC N (fun k => C ((j + l) % N * k % N)) = ⟨(N : Rat), 0⟩ := by
      rw [← sum_one]
      exact sumC_congr (fun k _ => by rw [h0, Nat.zero_mul, Nat.zero_mod, h.one])
    rw [e] at a1
    exact a1.mono (by have := h.nn; grind)
  · rw [if_neg h0]
    have a2 : Cl (sumC N (fun k => C ((j + l) % N * k % N))) CQ.zero d2 := by
      have := h.sum _ (Nat.pos_of_ne_zero h0) (Nat.mod_lt _ h.pos)
      unfold Cl
      rw [show (sumC N (fun k => C ((j + l) % N * k % N))).sub CQ.zero = sumC N (fun k => C ((j + l) % N * k % N)) from CQ.eq (by simp only [CQ.sub, CQ.zero]; grind) (by simp only [CQ.sub, CQ.zero]; grind)]
      exact this
    exact a1.trans a2
/-- The k-th element of the transform of complex numbers. -/
def trZ (N : Nat) (C : Nat → CQ) (x : Nat → CQ) (m k : Nat) : CQ := sumC m (fun j => (x j).mul (C (j * k % N)))
/-- The inverse transform of the transform, N times. -/
theorem Rts.back (h : Rts N C d d2) (x : Nat → CQ) (m l : Nat) (R : Rat) (hx : ∀ i, i < m → Nr (x i) R) :
    Cl (sumC N (fun k => (trZ N C x m k).mul (C (l * k % N)))) (sumC m (fun j => (x j).mul (if (j + l) % N = 0 then (⟨(N : Rat), 0⟩ : CQ) else CQ.zero))) ((m : Rat) * (2 * (R * ((N : Rat) * d + d2)))) := by
  have e : sumC N (fun k => (trZ N C x m k).mul (C (l * k % N))) = sumC m (fun j => (x j).mul (sumC N (fun k => (C (j * k % N)).mul (C (l * k % N))))) := by
    unfold trZ
    rw [sumC_congr (fun k _ => sumC_mul m _ _), sumC_comm]
    refine sumC_congr (fun j _ => ?_)
    rw [mul_sumC]
    exact sumC_congr (fun k _ => CQ.mul_assoc _ _ _)
  rw [e]
  refine Cl.sum (fun j hj => ?_)
  have a := Nr.mul (hx j hj) (h.pair j l)
  have e1 : ∀ z w u : CQ, z.mul (w.sub u) = (z.mul w).sub (z.mul u) := fun z w u => CQ.eq (by simp only [CQ.mul, CQ.sub]; grind) (by simp only [CQ.mul, CQ.sub]; grind)
  rw [e1] at a
  exact a
end
/-- A whole number near one that is near a whole number. -/
theorem int_near {t c : Int} {r : Rat} (h1 : (t : Rat) - r ≤ 1 / 2) (h2 : r - (t : Rat) ≤ 1 / 2) (h3 : r - (c : Rat) < 1 / 2) (h4 : (c : Rat) - r < 1 / 2) : t = c := by
  have h5 : (t : Rat) < (c : Rat) + 1 := by grind
  have h6 : (c : Rat) < (t : Rat) + 1 := by grind
  have h7 : t < c + 1 := by exact_mod_cast h5
  have h8 : c < t + 1 := by exact_mod_cast h6
  omega
end
end Go.Proofs.YtghacjhempmejaaDoor
