/-
  Rounding: the word nearest to a number stands for a number within half of the last digit kept, and for the number itself if it has no more than 53 digits. Numbers are told in units of 2 ^ -2148. Condition: the number is at most 2 ^ 900.
  Sums, differences and products of float64 words: a word that stands for a number near the exact one. Condition: the exact one is at most 2 ^ 900.
  The same for rational numbers: FR x r says that the word x stands for r; eps K is half of the last digit of numbers up to 2 ^ K.
  Integers as float64 words, exactly, and the order of words as that of the numbers. Condition: the integers have at most 53 digits.
  What is dropped of a number that is made whole. Plain facts.
  Words made whole: towards zero, to the nearest even, downwards. Condition: the number is at most 2000000000 (towards zero: none).
  Sums and products of complex numbers of two float64 words. Condition: bounds on the parts.
  The numbers that given words stand for.
  A float64 word divided by a power of two. Condition: the quotient is at most 2 ^ 900.
  The steps of math.Round as a plain function of words: a word that stands for a whole number within half. Condition: the number is at most 2 ^ 40.
-/
import Ieee.Arith
import Derived.Laws.ComplexArith
import Derived.Laws.BitsLemmas
import Derived.Laws.Bits64b
namespace Go.Proofs.YtghacjhempmejaaDoor
section
open Ieee
/-- A number in units of 2 ^ -2148. -/
def vN (m : Nat) (i : Int) : Nat := m * 2 ^ (i + 2148).toNat
def vI (s : Bool) (m : Nat) (i : Int) : Int := if s then -(vN m i : Int) else (vN m i : Int)
theorem cut_even (neg : Bool) (n drop : Nat) : 2 * (Toward.even.cut neg n drop * 2 ^ drop) ≤ 2 * n + 2 ^ drop ∧ 2 * n ≤ 2 * (Toward.even.cut neg n drop * 2 ^ drop) + 2 ^ drop := by
  unfold Toward.cut
  simp only [Nat.shiftLeft_eq, Nat.one_mul]
  by_cases h : drop ≤ n.log2 + 2
  · rw [Nat.min_eq_left h]
    have hg : 0 < 2 ^ drop := Nat.pow_pos (by omega)
    have hd := Nat.div_add_mod n (2 ^ drop)
    have hm := Nat.mod_lt n hg
    generalize 2 ^ drop = g at *
    generalize n / g = q at *
    generalize n % g = r at *
    have hq : g * q = q * g := Nat.mul_comm _ _
    by_cases c : (g < 2 * r || (g == 2 * r && q % 2 == 1)) = true
    · rw [c]
      simp only [Bool.toNat_true]
      rw [Nat.add_mul, Nat.one_mul]
      simp only [Bool.or_eq_true, Bool.and_eq_true, decide_eq_true_eq, beq_iff_eq] at c
      omega
    · rw [Bool.not_eq_true] at c
      rw [c]
      simp only [Bool.toNat_false, Nat.add_zero]
      simp only [Bool.or_eq_false_iff, Bool.and_eq_false_iff, decide_eq_false_iff_not, beq_eq_false_iff_ne] at c
      omega
  · rw [Nat.min_eq_right (by omega)]
    have h1 : n < 2 ^ (n.log2 + 1) := Nat.lt_log2_self
    have h2 : 2 ^ (n.log2 + 2) = 2 * 2 ^ (n.log2 + 1) := by rw [Nat.pow_succ]; omega
    have h3 : 2 ^ (n.log2 + 2) ≤ 2 ^ drop := Nat.pow_le_pow_right (by omega) (by omega)
    have hlt : n < 2 ^ (n.log2 + 2) := by omega
    rw [Nat.div_eq_of_lt hlt, Nat.mod_eq_of_lt hlt]
    have c : (decide (2 ^ (n.log2 + 2) < 2 * n) || (2 ^ (n.log2 + 2) == 2 * n && 0 % 2 == 1)) = false := by
      simp only [Bool.or_eq_false_iff, Bool.and_eq_false_iff, decide_eq_false_iff_not]
      exact ⟨by omega, .inr rfl⟩
    rw [c]
    simp only [Bool.toNat_false]
    omega
theorem cut_le (neg : Bool) (n drop B : Nat) (h : n < B * 2 ^ drop) : Toward.even.cut neg n drop ≤ B := by
  have h1 := (cut_even neg n drop).1
  have hp : 0 < 2 ^ drop := Nat.pow_pos (by omega)
  generalize Toward.even.cut neg n drop = k at *
  generalize 2 ^ drop = g at *
  refine Nat.le_of_not_lt (fun c => ?_)
  have h2 : (B + 1) * g ≤ k * g := Nat.mul_le_mul_right g c
  rw [Nat.add_mul, Nat.one_mul] at h2
  omega
theorem le_cut (neg : Bool) (n drop B : Nat) (h : B * 2 ^ drop ≤ n) : B ≤ Toward.even.cut neg n drop := by
  have h1 := (cut_even neg n drop).2
  have hp : 0 < 2 ^ drop := Nat.pow_pos (by omega)
  generalize Toward.even.cut neg n drop = k at *
  generalize 2 ^ drop = g at *
  refine Nat.le_of_not_lt (fun c => ?_)
  have h2 : (k + 1) * g ≤ B * g := Nat.mul_le_mul_right g c
  rw [Nat.add_mul, Nat.one_mul] at h2
  omega
/-- A rung below infinity, read. -/
theorem read_word (neg : Bool) (rung : Nat) (h : rung < 2047 * 2 ^ 52) : double.read (double.word neg rung) = if rung < 2 ^ 52 then .number neg rung (-1074) else .number neg (2 ^ 52 + rung % 2 ^ 52) (-1074 + ((rung / 2 ^ 52 - 1 : Nat) : Int)) := by
  have e1 : double.signWeight = 2 ^ 63 := rfl
  have e2 : double.binade = 2 ^ 52 := rfl
  have e3 : double.infRung = 2047 * 2 ^ 52 := rfl
  have e4 : double.leastPlace = -1074 := rfl
  unfold Format.read Format.word
  rw [e1, e2, e3, e4]
  have hs : (if neg then 2 ^ 63 + rung else rung) / 2 ^ 63 % 2 = (if neg then 1 else 0) := by
    split <;> omega
  have hr : (if neg then 2 ^ 63 + rung else rung) % 2 ^ 63 = rung := by
    split <;> omega
  simp only [hs, hr]
  have hb : ((if neg then 1 else 0 : Nat) == 1) = neg := by cases neg <;> rfl
  rw [hb]
  split <;> rfl
theorem mul_sh (a b c : Nat) : 2 * (a * b * c) = 2 * (a * c) * b := by rw [Nat.mul_right_comm a b c, ← Nat.mul_assoc]
/-- 2 ^ K, and half of the last digit of numbers up to it, in units. -/
def tops (K : Nat) : Nat := 2 ^ (2148 + K)
def half (K : Nat) : Nat := 2 ^ (2095 + K)
theorem half_tops (K : Nat) : half K * 9007199254740992 = tops K := by
  unfold half tops
  rw [show 2148 + K = (2095 + K) + 53 by omega, Nat.pow_add 2 (2095 + K) 53]
/-- What the word nearest to a number stands for: within half of the last digit kept. -/
theorem nearest_ok (neg : Bool) (mag : Nat) (place : Int) (hp : -2148 ≤ place) (K : Nat) (hK : K ≤ 900) (hv : vN mag place ≤ tops K) :
    ∃ m i, double.read (double.nearest neg mag place) = .number neg m i ∧ -1074 ≤ i ∧ double.nearest neg mag place < 2 ^ 64 ∧ vN m i ≤ vN mag place + half K ∧ vN mag place ≤ vN m i + half K ∧ (mag < 2 ^ 53 → -1074 ≤ place → vN m i = vN mag place) := by
  unfold tops at hv
  unfold half
  have e4 : double.leastPlace = -1074 := rfl
  have e5 : double.fractionBits = 52 := rfl
  have e2 : double.binade = 2 ^ 52 := rfl
  have e3 : double.infRung = 2047 * 2 ^ 52 := rfl
  have hw : ∀ r, r < 2047 * 2 ^ 52 → double.word neg r < 2 ^ 64 := fun r hr => by
    have e1 : double.signWeight = 2 ^ 63 := rfl
    unfold Format.word; rw [e1]; split <;> omega
  by_cases h0 : mag = 0
  · subst h0
    have e : double.nearest neg 0 place = double.word neg 0 := by unfold Format.nearest; rw [if_pos rfl]
    rw [e, read_word neg 0 (by decide), if_pos (by decide)]
    exact ⟨0, -1074, rfl, Int.le_refl _, hw 0 (by decide), by rw [show vN 0 (-1074) = 0 from Nat.zero_mul _]; exact Nat.zero_le _, by rw [show vN 0 place = 0 from Nat.zero_mul _]; exact Nat.zero_le _, fun _ _ => by unfold vN; rw [Nat.zero_mul, Nat.zero_mul]⟩
  · obtain ⟨L, hL⟩ : ∃ L, L = mag.log2 := ⟨_, rfl⟩
    have hl1 : 2 ^ L ≤ mag := by rw [hL]; exact Nat.log2_self_le h0
    have hl2 : mag < 2 ^ (L + 1) := by rw [hL]; exact Nat.lt_log2_self
    obtain ⟨last, hlast⟩ : ∃ last : Int, last = max (place + L - 52) (-1074) := ⟨_, rfl⟩
    obtain ⟨shl, hshl⟩ : ∃ s, s = (place - last).toNat := ⟨_, rfl⟩
    obtain ⟨drop, hdrop⟩ : ∃ s, s = (last - place).toNat := ⟨_, rfl⟩
    obtain ⟨kept, hkept⟩ : ∃ k, k = Toward.even.cut neg (mag * 2 ^ shl) drop := ⟨_, rfl⟩
    obtain ⟨d, hd⟩ : ∃ d, d = (last + 1074).toNat := ⟨_, rfl⟩
    have hd1 : last = -1074 + (d : Int) := by omega
    have en : double.nearest neg mag place = double.word neg (min (d * 2 ^ 52 + kept) (2047 * 2 ^ 52)) := by
      unfold Format.nearest
      rw [if_neg h0, e4, e5, e2, e3]
      simp only [Nat.shiftLeft_eq]
      rw [← hL, show ((52 : Nat) : Int) = 52 from rfl, ← hlast, ← hshl, ← hdrop, ← hkept, show (last - -1074).toNat = d by omega]
    -- the units of the place of the last digit
    have hpl : (place + 2148).toNat + drop = (d + 1074) + shl := by omega
    have hdv : vN mag place * 2 ^ drop = (mag * 2 ^ shl) * 2 ^ (d + 1074) := by
      unfold vN
      rw [Nat.mul_assoc, ← Nat.pow_add, hpl, Nat.pow_add, Nat.mul_assoc, Nat.mul_comm (2 ^ (d + 1074))]
    obtain ⟨c1, c2⟩ := cut_even neg (mag * 2 ^ shl) drop
    rw [← hkept] at c1 c2
    have hg : 0 < 2 ^ drop := Nat.pow_pos (by omega)
    -- the numbers kept
    have hk1 : kept ≤ 2 ^ 53 := by
      rw [hkept]
      apply cut_le
      rw [← Nat.pow_add]
      refine Nat.lt_of_lt_of_le (Nat.mul_lt_mul_of_pos_right hl2 (Nat.pow_pos (by omega))) ?_
      rw [← Nat.pow_add]
      exact Nat.pow_le_pow_right (by omega) (by omega)
    have hk2 : 0 < d → 2 ^ 52 ≤ kept := fun h => by
      rw [hkept]
      apply le_cut
      rw [← Nat.pow_add]
      refine Nat.le_trans ?_ (Nat.mul_le_mul_right _ hl1)
      rw [← Nat.pow_add]
      exact Nat.pow_le_pow_right (by omega) (by omega)
    -- half of the last digit
    have hmg : 2 ^ (L + (place + 2148).toNat) ≤ 2 ^ (2148 + K) := by
      refine Nat.le_trans ?_ hv
      unfold vN
      rw [Nat.pow_add]
      exact Nat.mul_le_mul_right _ hl1
    have hLK : L + (place + 2148).toNat ≤ 2148 + K := (Nat.pow_le_pow_iff_right (by omega)).1 hmg
    have hdK : d + 1074 ≤ 2096 + K := by omega
    have hE : 2 ^ (d + 1074) ≤ 2 ^ (2096 + K) := Nat.pow_le_pow_right (by omega) hdK
    have hE2 : 2 ^ (2096 + K) = 2 * 2 ^ (2095 + K) := by rw [show 2096 + K = (2095 + K) + 1 by omega, Nat.pow_succ, Nat.mul_comm]
    rw [hE2] at hE
    clear hE2
    generalize 2 ^ (2095 + K) = T at hE ⊢
    have hA : 2 * (kept * 2 ^ (d + 1074)) ≤ 2 * vN mag place + 2 ^ (d + 1074) := by
      refine Nat.le_of_mul_le_mul_right ?_ hg
      rw [Nat.add_mul, Nat.mul_assoc, Nat.mul_assoc 2 (vN mag place), hdv]
      have := Nat.mul_le_mul_right (2 ^ (d + 1074)) c1
      rw [Nat.add_mul] at this
      have x1 := mul_sh kept (2 ^ (d + 1074)) (2 ^ drop)
      have x2 : 2 * (mag * 2 ^ shl * 2 ^ (d + 1074)) = 2 * (mag * 2 ^ shl) * 2 ^ (d + 1074) := (Nat.mul_assoc _ _ _).symm
      rw [x1, x2, Nat.mul_comm (2 ^ (d + 1074)) (2 ^ drop)]
      exact this
    have hB : 2 * vN mag place ≤ 2 * (kept * 2 ^ (d + 1074)) + 2 ^ (d + 1074) := by
      refine Nat.le_of_mul_le_mul_right ?_ hg
      rw [Nat.add_mul, Nat.mul_assoc, Nat.mul_assoc 2 (kept * 2 ^ (d + 1074)), hdv]
      have := Nat.mul_le_mul_right (2 ^ (d + 1074)) c2
      rw [Nat.add_mul] at this
      have x1 := mul_sh kept (2 ^ (d + 1074)) (2 ^ drop)
      have x2 : 2 * (mag * 2 ^ shl * 2 ^ (d + 1074)) = 2 * (mag * 2 ^ shl) * 2 ^ (d + 1074) := (Nat.mul_assoc _ _ _).symm
      rw [x1, x2, Nat.mul_comm (2 ^ (d + 1074)) (2 ^ drop)]
      exact this
    have hrg : d * 2 ^ 52 + kept < 2047 * 2 ^ 52 := by omega
    have hval : ∃ m i, double.read (double.word neg (d * 2 ^ 52 + kept)) = .number neg m i ∧ -1074 ≤ i ∧ vN m i = kept * 2 ^ (d + 1074) := by
      rw [read_word neg _ hrg]
      by_cases hr : d * 2 ^ 52 + kept < 2 ^ 52
      · rw [if_pos hr]
        obtain rfl : d = 0 := by omega
        refine ⟨_, _, rfl, Int.le_refl _, ?_⟩
        unfold vN
        rw [show ((-1074 : Int) + 2148).toNat = 0 + 1074 from rfl, Nat.zero_mul, Nat.zero_add]
      · rw [if_neg hr]
        refine ⟨_, _, rfl, by omega, ?_⟩
        have hk3 : 2 ^ 52 ≤ kept := by
          by_cases h : 0 < d
          · exact hk2 h
          · omega
        unfold vN
        by_cases hc : kept = 2 ^ 53
        · rw [hc, show (d * 2 ^ 52 + 2 ^ 53) / 2 ^ 52 - 1 = d + 1 by omega, show (d * 2 ^ 52 + 2 ^ 53) % 2 ^ 52 = 0 by omega, show ((-1074 : Int) + ((d + 1 : Nat) : Int) + 2148).toNat = d + 1074 + 1 by omega, Nat.pow_succ (m := d + 1074), Nat.add_zero, Nat.mul_comm (2 ^ (d + 1074)) 2, ← Nat.mul_assoc, show (2 ^ 52 * 2 : Nat) = 2 ^ 53 from rfl]
        · rw [show (d * 2 ^ 52 + kept) / 2 ^ 52 - 1 = d by omega, show 2 ^ 52 + (d * 2 ^ 52 + kept) % 2 ^ 52 = kept by omega, show ((-1074 : Int) + ((d : Nat) : Int) + 2148).toNat = d + 1074 by omega]
    have hex : mag < 2 ^ 53 → -1074 ≤ place → kept * 2 ^ (d + 1074) = vN mag place := fun hm hpl2 => by
      have hL52 : L < 53 := by
        refine (Nat.pow_lt_pow_iff_right (a := 2) (by omega)).1 ?_
        omega
      have hd0 : drop = 0 := by omega
      rw [hd0, Nat.pow_zero, Nat.mul_one] at hdv
      rw [hd0, Nat.pow_zero, Nat.mul_one] at c1 c2
      rw [hdv, show kept = mag * 2 ^ shl by omega]
    obtain ⟨m, i, h1, h2, h3⟩ := hval
    rw [en, Nat.min_eq_left (Nat.le_of_lt hrg)]
    refine ⟨m, i, h1, h2, hw _ hrg, ?_, ?_, fun hm hpl2 => by rw [h3]; exact hex hm hpl2⟩ <;> rw [h3] <;> clear hex hw hv hl1 hl2 hmg hdv c1 c2 hg hk1 hk2 hrg h1 h3 <;> generalize kept * 2 ^ (d + 1074) = X at * <;> generalize 2 ^ (d + 1074) = Y at * <;> omega
end
section
open Ieee
/-- The word stands for the finite number v, in units of 2 ^ -2148. -/
def FW (x : Nat) (v : Int) : Prop := ∃ s m i, double.read x = .number s m i ∧ -1074 ≤ i ∧ v = vI s m i
theorem vI_signed (s : Bool) (m : Nat) (i b : Int) (h : b ≤ i) (hb : -2148 ≤ b) : signed s m (i - b).toNat * (2 ^ (b + 2148).toNat : Nat) = vI s m i := by
  have e : (i + 2148).toNat = (i - b).toNat + (b + 2148).toNat := by omega
  unfold signed vI vN
  rw [e, Nat.pow_add, Nat.shiftLeft_eq]
  cases s
  · simp only [Bool.false_eq_true, if_false]
    push_cast
    rw [Int.mul_assoc]
  · simp only [if_true]
    push_cast
    rw [Int.neg_mul, Int.mul_assoc]
theorem vI_abs (n : Bool) (t b : Int) (hn : t ≠ 0 → n = decide (t < 0)) : vI n t.natAbs b = t * (2 ^ (b + 2148).toNat : Nat) := by
  unfold vI vN
  by_cases h0 : t = 0
  · subst h0; simp
  · rw [hn h0]
    by_cases h : t < 0
    · rw [decide_eq_true h, if_pos rfl]
      push_cast
      rw [show ((t.natAbs : Nat) : Int) = -t by omega, Int.neg_mul, Int.neg_neg]
    · rw [decide_eq_false h]
      simp only [Bool.false_eq_true, if_false]
      push_cast
      rw [show ((t.natAbs : Nat) : Int) = t by omega]
theorem vI_natAbs (s : Bool) (m : Nat) (i : Int) : (vI s m i).natAbs = vN m i := by
  unfold vI; split <;> omega
theorem write_ok (neg : Bool) (mag : Nat) (place : Int) (hp : -2148 ≤ place) (K : Nat) (hK : K ≤ 900) (v : Int) (hv : v = vI neg mag place) (hb : v.natAbs ≤ tops K) :
    double.write (.number neg mag place) < 2 ^ 64 ∧ ∃ c, FW (double.write (.number neg mag place)) c ∧ (c - v).natAbs ≤ half K := by
  rw [hv, vI_natAbs] at hb
  obtain ⟨m, i, h1, h2, h3, h4, h5, _⟩ := nearest_ok neg mag place hp K hK hb
  refine ⟨h3, vI neg m i, ⟨neg, m, i, h1, h2, rfl⟩, ?_⟩
  rw [hv]
  generalize half K = T at *
  unfold vI
  split <;> omega
theorem sum_ok {x y : Nat} {a b : Int} (hx : FW x a) (hy : FW y b) (K : Nat) (hK : K ≤ 900) (hb : (a + b).natAbs ≤ tops K) :
    ∃ z c, double.add x y = some z ∧ z < 2 ^ 64 ∧ FW z c ∧ (c - (a + b)).natAbs ≤ half K := by
  obtain ⟨s, m, i, h1, h2, rfl⟩ := hx
  obtain ⟨t, n, j, g1, g2, rfl⟩ := hy
  unfold Format.add
  rw [h1, g1]
  obtain ⟨B, hB⟩ : ∃ B, B = min i j := ⟨_, rfl⟩
  obtain ⟨T, hT⟩ : ∃ T, T = signed s m (i - B).toNat + signed t n (j - B).toNat := ⟨_, rfl⟩
  have e : Datum.sum (.number s m i) (.number t n j) = some (.number (if T = 0 then s && t else T < 0) T.natAbs B) := by
    rw [hT, hB]; rfl
  rw [e]
  have hv : vI s m i + vI t n j = vI (if T = 0 then s && t else decide (T < 0)) T.natAbs B := by
    rw [vI_abs _ _ _ (fun h => by rw [if_neg h]), hT, Int.add_mul, vI_signed s m i B (by omega) (by omega), vI_signed t n j B (by omega) (by omega)]
  obtain ⟨h3, c, h4, h5⟩ := write_ok _ _ B (by omega) K hK _ hv hb
  exact ⟨_, c, rfl, h3, h4, h5⟩
theorem opp_read {y : Nat} {b : Int} (hy : FW y b) : ∃ s m i, (double.read y).opposite = .number s m i ∧ -1074 ≤ i ∧ -b = vI s m i := by
  obtain ⟨t, n, j, g1, g2, rfl⟩ := hy
  refine ⟨!t, n, j, by rw [g1]; rfl, g2, ?_⟩
  unfold vI; cases t <;> simp
theorem sub_ok {x y : Nat} {a b : Int} (hx : FW x a) (hy : FW y b) (K : Nat) (hK : K ≤ 900) (hb : (a - b).natAbs ≤ tops K) :
    ∃ z c, double.sub x y = some z ∧ z < 2 ^ 64 ∧ FW z c ∧ (c - (a - b)).natAbs ≤ half K := by
  obtain ⟨t, n, j, g1, g2, g3⟩ := opp_read hy
  obtain ⟨s, m, i, h1, h2, rfl⟩ := hx
  unfold Format.sub
  rw [h1, g1]
  obtain ⟨B, hB⟩ : ∃ B, B = min i j := ⟨_, rfl⟩
  obtain ⟨T, hT⟩ : ∃ T, T = signed s m (i - B).toNat + signed t n (j - B).toNat := ⟨_, rfl⟩
  have e : Datum.sum (.number s m i) (.number t n j) = some (.number (if T = 0 then s && t else T < 0) T.natAbs B) := by
    rw [hT, hB]; rfl
  rw [e]
  have hv : vI s m i - b = vI (if T = 0 then s && t else decide (T < 0)) T.natAbs B := by
    rw [Int.sub_eq_add_neg, g3, vI_abs _ _ _ (fun h => by rw [if_neg h]), hT, Int.add_mul, vI_signed s m i B (by omega) (by omega), vI_signed t n j B (by omega) (by omega)]
  obtain ⟨h3, c, h4, h5⟩ := write_ok _ _ B (by omega) K hK _ hv hb
  exact ⟨_, c, rfl, h3, h4, h5⟩
/-- The units of one. -/
def u2148 : Nat := 2148
def D2 : Nat := 2 ^ u2148
theorem D2_pos : 0 < D2 := Nat.two_pow_pos u2148
theorem vI_mul (s t : Bool) (m n : Nat) (i j : Int) (hi : -1074 ≤ i) (hj : -1074 ≤ j) : vI (s ^^ t) (m * n) (i + j) * (D2 : Nat) = vI s m i * vI t n j := by
  have e : (i + 2148).toNat + (j + 2148).toNat = (i + j + 2148).toNat + u2148 := by unfold u2148; omega
  have hN : vN (m * n) (i + j) * D2 = vN m i * vN n j := by
    unfold vN D2
    rw [Nat.mul_assoc, ← Nat.pow_add, ← e, Nat.pow_add]
    generalize 2 ^ (i + 2148).toNat = a
    generalize 2 ^ (j + 2148).toNat = b
    ac_rfl
  have hI : (vN (m * n) (i + j) : Int) * (D2 : Nat) = (vN m i : Int) * (vN n j : Int) := by
    rw [← Int.natCast_mul, hN, Int.natCast_mul]
  unfold vI
  cases s <;> cases t <;> simp only [Bool.xor_self, Bool.xor_true, Bool.xor_false, Bool.not_false, Bool.false_eq_true, if_true, if_false, Int.neg_mul, Int.mul_neg, Int.neg_neg, hI]
theorem mul_ok {x y : Nat} {a b : Int} (hx : FW x a) (hy : FW y b) (K : Nat) (hK : K ≤ 900) (hb : (a * b).natAbs ≤ tops K * D2) :
    ∃ z c, double.mul x y = some z ∧ z < 2 ^ 64 ∧ FW z c ∧ (c * (D2 : Nat) - a * b).natAbs ≤ half K * D2 := by
  obtain ⟨s, m, i, h1, h2, rfl⟩ := hx
  obtain ⟨t, n, j, g1, g2, rfl⟩ := hy
  have hm := vI_mul s t m n i j h2 g2
  unfold Format.mul
  rw [h1, g1]
  have e : Datum.product (.number s m i) (.number t n j) = some (.number (s ^^ t) (m * n) (i + j)) := rfl
  rw [e]
  rw [← hm] at hb ⊢
  have hp := D2_pos
  obtain ⟨P, hP⟩ : ∃ P, P = vI (s ^^ t) (m * n) (i + j) := ⟨_, rfl⟩
  rw [← hP] at hb ⊢
  have hb2 : P.natAbs ≤ tops K := by
    rw [Int.natAbs_mul, Int.natAbs_natCast] at hb
    exact Nat.le_of_mul_le_mul_right hb hp
  obtain ⟨h3, c, h4, h5⟩ := write_ok _ _ (i + j) (by omega) K hK P hP hb2
  refine ⟨_, c, rfl, h3, h4, ?_⟩
  rw [← Int.sub_mul, Int.natAbs_mul, Int.natAbs_natCast]
  exact Nat.mul_le_mul_right _ h5
end
section
open Ieee
/-- The word stands for the rational number r. -/
def FR (x : Nat) (r : Rat) : Prop := ∃ V : Int, FW x V ∧ r * (D2 : Nat) = (V : Rat)
theorem D2r : (0 : Rat) < (D2 : Nat) := by exact_mod_cast D2_pos
theorem pow_units (K : Nat) : ((tops K : Nat) : Rat) = (2 : Rat) ^ K * (D2 : Nat) := by
  have e : tops K = 2 ^ K * D2 := by
    unfold tops D2
    rw [show 2148 + K = K + u2148 by unfold u2148; omega, Nat.pow_add]
  rw [e, Rat.natCast_mul, Rat.natCast_pow]; rfl
theorem pow_half (K : Nat) : ((half K : Nat) : Rat) * 9007199254740992 = (2 : Rat) ^ K * (D2 : Nat) := by
  rw [← pow_units, ← half_tops, Rat.natCast_mul]; rfl
theorem abs_cast {V : Int} {N : Nat} (h : V.natAbs ≤ N) : (V : Rat) ≤ (N : Rat) ∧ -(V : Rat) ≤ (N : Rat) := by
  have h1 : V ≤ (N : Int) := by omega
  have h2 : -V ≤ (N : Int) := by omega
  constructor
  · exact_mod_cast h1
  · exact_mod_cast h2
theorem cast_abs {V : Int} {N : Nat} (h1 : (V : Rat) ≤ (N : Rat)) (h2 : -(V : Rat) ≤ (N : Rat)) : V.natAbs ≤ N := by
  have h1 : V ≤ (N : Int) := by exact_mod_cast h1
  have h2 : -V ≤ (N : Int) := by exact_mod_cast h2
  omega
/-- Half of the last digit of numbers up to 2 ^ K. -/
def eps (K : Nat) : Rat := (2 : Rat) ^ K / 9007199254740992
theorem eps_units (K : Nat) : eps K * (D2 : Nat) = ((half K : Nat) : Rat) := by
  have h := pow_half K
  unfold eps
  grind
theorem near_of {c v : Rat} {C V : Int} {K : Nat} (hc : c * (D2 : Nat) = (C : Rat)) (hv : v * (D2 : Nat) = (V : Rat)) (h : (C - V).natAbs ≤ half K) : c - v ≤ eps K ∧ v - c ≤ eps K := by
  obtain ⟨h1, h2⟩ := abs_cast h
  rw [Rat.intCast_sub] at h1 h2
  rw [← eps_units, ← hc, ← hv] at h1 h2
  have hp := D2r
  constructor
  · refine Rat.le_of_mul_le_mul_right ?_ hp; grind
  · refine Rat.le_of_mul_le_mul_right ?_ hp; grind
theorem bound_of {v : Rat} {V : Int} {K : Nat} (hv : v * (D2 : Nat) = (V : Rat)) (h1 : v ≤ (2 : Rat) ^ K) (h2 : -v ≤ (2 : Rat) ^ K) : V.natAbs ≤ tops K := by
  have hp := D2r
  apply cast_abs <;> rw [pow_units, ← hv]
  · exact Rat.mul_le_mul_of_nonneg_right h1 (Rat.le_of_lt hp)
  · have := Rat.mul_le_mul_of_nonneg_right h2 (Rat.le_of_lt hp); grind
theorem fr_add {x y : Nat} {a b : Rat} (hx : FR x a) (hy : FR y b) (K : Nat) (hK : K ≤ 900) (h1 : a + b ≤ (2 : Rat) ^ K) (h2 : -(a + b) ≤ (2 : Rat) ^ K) :
    ∃ z c, double.add x y = some z ∧ z < 2 ^ 64 ∧ FR z c ∧ c - (a + b) ≤ eps K ∧ (a + b) - c ≤ eps K := by
  obtain ⟨A, ha, ea⟩ := hx
  obtain ⟨B, hb, eb⟩ := hy
  have es : (a + b) * (D2 : Nat) = ((A + B : Int) : Rat) := by rw [Rat.intCast_add, ← ea, ← eb]; grind
  obtain ⟨z, C, k1, k2, k3, k4⟩ := sum_ok ha hb K hK (bound_of es h1 h2)
  have hp := D2r
  have ec : ((C : Rat) / (D2 : Nat)) * (D2 : Nat) = (C : Rat) := by grind
  exact ⟨z, (C : Rat) / (D2 : Nat), k1, k2, ⟨C, k3, ec⟩, near_of ec es k4⟩
theorem fr_sub {x y : Nat} {a b : Rat} (hx : FR x a) (hy : FR y b) (K : Nat) (hK : K ≤ 900) (h1 : a - b ≤ (2 : Rat) ^ K) (h2 : -(a - b) ≤ (2 : Rat) ^ K) :
    ∃ z c, double.sub x y = some z ∧ z < 2 ^ 64 ∧ FR z c ∧ c - (a - b) ≤ eps K ∧ (a - b) - c ≤ eps K := by
  obtain ⟨A, ha, ea⟩ := hx
  obtain ⟨B, hb, eb⟩ := hy
  have es : (a - b) * (D2 : Nat) = ((A - B : Int) : Rat) := by rw [Rat.intCast_sub, ← ea, ← eb]; grind
  obtain ⟨z, C, k1, k2, k3, k4⟩ := sub_ok ha hb K hK (bound_of es h1 h2)
  have hp := D2r
  have ec : ((C : Rat) / (D2 : Nat)) * (D2 : Nat) = (C : Rat) := by grind
  exact ⟨z, (C : Rat) / (D2 : Nat), k1, k2, ⟨C, k3, ec⟩, near_of ec es k4⟩
theorem fr_mul {x y : Nat} {a b : Rat} (hx : FR x a) (hy : FR y b) (K : Nat) (hK : K ≤ 900) (h1 : a * b ≤ (2 : Rat) ^ K) (h2 : -(a * b) ≤ (2 : Rat) ^ K) :
    ∃ z c, double.mul x y = some z ∧ z < 2 ^ 64 ∧ FR z c ∧ c - a * b ≤ eps K ∧ a * b - c ≤ eps K := by
  obtain ⟨A, ha, ea⟩ := hx
  obtain ⟨B, hb, eb⟩ := hy
  have hp := D2r
  have hp0 := Rat.le_of_lt hp
  have es : (a * b) * (D2 : Nat) * (D2 : Nat) = ((A * B : Int) : Rat) := by rw [Rat.intCast_mul, ← ea, ← eb]; grind
  have hbd : (A * B).natAbs ≤ tops K * D2 := by
    apply cast_abs <;> rw [Rat.natCast_mul, pow_units, ← es]
    · exact Rat.mul_le_mul_of_nonneg_right (Rat.mul_le_mul_of_nonneg_right h1 hp0) hp0
    · have := Rat.mul_le_mul_of_nonneg_right (Rat.mul_le_mul_of_nonneg_right h2 hp0) hp0; grind
  obtain ⟨z, C, k1, k2, k3, k4⟩ := mul_ok ha hb K hK hbd
  have ec : ((C : Rat) / (D2 : Nat)) * (D2 : Nat) = (C : Rat) := by grind
  refine ⟨z, (C : Rat) / (D2 : Nat), k1, k2, ⟨C, k3, ec⟩, ?_⟩
  generalize (C : Rat) / (D2 : Nat) = c at ec ⊢
  obtain ⟨h3, h4⟩ := abs_cast k4
  rw [Rat.intCast_sub, Rat.intCast_mul, ← es, ← ec, Rat.natCast_mul, ← eps_units, show (((D2 : Nat) : Int) : Rat) = ((D2 : Nat) : Rat) from rfl] at h3 h4
  constructor
  · refine Rat.le_of_mul_le_mul_right (Rat.le_of_mul_le_mul_right ?_ hp) hp; grind
  · refine Rat.le_of_mul_le_mul_right (Rat.le_of_mul_le_mul_right ?_ hp) hp; grind
end
section
open Ieee
theorem write_exact (neg : Bool) (mag : Nat) (place : Int) (hp : -1074 ≤ place) (hm : mag < 2 ^ 53) (K : Nat) (hK : K ≤ 900) (hb : vN mag place ≤ tops K) :
    double.write (.number neg mag place) < 2 ^ 64 ∧ FW (double.write (.number neg mag place)) (vI neg mag place) := by
  obtain ⟨m, i, h1, h2, h3, _, _, h6⟩ := nearest_ok neg mag place (by omega) K hK hb
  refine ⟨h3, neg, m, i, h1, h2, ?_⟩
  unfold vI
  rw [h6 hm hp]
theorem vN_one (m : Nat) : vN m 0 = m * D2 := by
  unfold vN D2
  rw [show ((0 : Int) + 2148).toNat = u2148 from rfl]
theorem fr_int (n : Int) (h : n.natAbs < 2 ^ 53) : double.write (.number (n < 0) n.natAbs 0) < 2 ^ 64 ∧ FR (double.write (.number (n < 0) n.natAbs 0)) (n : Rat) := by
  have hb : vN n.natAbs 0 ≤ tops 53 := by
    have e : tops 53 = 2 ^ 53 * D2 := by
      unfold tops D2
      rw [show 2148 + 53 = 53 + u2148 from rfl, Nat.pow_add]
    rw [vN_one, e]
    exact Nat.mul_le_mul_right _ (Nat.le_of_lt h)
  obtain ⟨h1, h2⟩ := write_exact (n < 0) n.natAbs 0 (by decide) h 53 (by decide) hb
  refine ⟨h1, _, h2, ?_⟩
  have e2 : vI (n < 0) n.natAbs 0 = n * (D2 : Nat) := by
    unfold vI
    rw [vN_one]
    by_cases hn : n < 0
    · rw [decide_eq_true hn, if_pos rfl]
      push_cast
      rw [show ((n.natAbs : Nat) : Int) = -n by omega, Int.neg_mul, Int.neg_neg]
    · rw [decide_eq_false hn]
      simp only [Bool.false_eq_true, if_false]
      push_cast
      rw [show ((n.natAbs : Nat) : Int) = n by omega]
  rw [e2, Rat.intCast_mul]
  rfl
theorem fr_order {x y : Nat} {a b : Rat} (hx : FR x a) (hy : FR y b) : double.order x y = some (if a < b then .lt else if a = b then .eq else .gt) := by
  obtain ⟨A, ⟨s, m, i, h1, h2, h3⟩, ea⟩ := hx
  obtain ⟨B, ⟨t, n, j, g1, g2, g3⟩, eb⟩ := hy
  unfold Format.order
  rw [h1, g1]
  obtain ⟨base, hbase⟩ : ∃ base, base = min i j := ⟨_, rfl⟩
  have e : Datum.order (.number s m i) (.number t n j) = some (compare (signed s m (i - base).toNat) (signed t n (j - base).toNat)) := by rw [hbase]; rfl
  rw [e]
  have k1 := vI_signed s m i base (by omega) (by omega)
  have k2 := vI_signed t n j base (by omega) (by omega)
  rw [← h3] at k1
  rw [← g3] at k2
  generalize signed s m (i - base).toNat = P at *
  generalize signed t n (j - base).toNat = Q at *
  have hU : (0 : Int) < ((2 ^ (base + 2148).toNat : Nat) : Int) := Int.natCast_pos.2 (Nat.two_pow_pos _)
  generalize ((2 ^ (base + 2148).toNat : Nat) : Int) = U at *
  have hD := D2r
  have c1 : a < b ↔ P < Q := by
    have r1 : a < b ↔ A < B := by
      constructor
      · intro h
        have h5 := Rat.mul_lt_mul_of_pos_right h hD
        rw [ea, eb] at h5
        exact_mod_cast h5
      · intro h
        have h5 : (A : Rat) < (B : Rat) := by exact_mod_cast h
        rw [← ea, ← eb] at h5
        exact Rat.lt_of_mul_lt_mul_right h5 (Rat.le_of_lt hD)
    rw [r1, ← k1, ← k2]
    exact ⟨fun h => Int.lt_of_mul_lt_mul_right h (Int.le_of_lt hU), fun h => Int.mul_lt_mul_of_pos_right h hU⟩
  have c2 : a = b ↔ P = Q := by
    constructor
    · intro h
      have h5 : (A : Rat) = (B : Rat) := by rw [← ea, ← eb, h]
      have h6 : A = B := by exact_mod_cast h5
      rw [← k1, ← k2] at h6
      exact Int.eq_of_mul_eq_mul_right (Int.ne_of_gt hU) h6
    · intro h
      have h5 : (A : Rat) = (B : Rat) := by rw [← k1, ← k2, h]
      rw [← ea, ← eb] at h5
      exact Rat.le_antisymm (Rat.le_of_mul_le_mul_right (by rw [h5]; exact Rat.le_refl) hD) (Rat.le_of_mul_le_mul_right (by rw [h5]; exact Rat.le_refl) hD)
  refine congrArg some ?_
  by_cases h : a < b
  · rw [if_pos h]
    exact Std.compare_eq_lt.2 (c1.1 h)
  · rw [if_neg h]
    by_cases h' : a = b
    · rw [if_pos h']
      exact Std.compare_eq_iff_eq.2 (c2.1 h')
    · rw [if_neg h']
      have : Q < P := by
        have q1 := mt c1.2 h
        have q2 := mt c2.2 h'
        omega
      exact Std.compare_eq_gt.2 this
end
section
open Ieee
theorem cut_zero (neg : Bool) (n drop : Nat) : Toward.zero.cut neg n drop = n / 2 ^ drop := by
  unfold Toward.cut
  simp only [Nat.shiftLeft_eq, Nat.one_mul, Bool.toNat_false, Nat.add_zero]
  by_cases h : drop ≤ n.log2 + 2
  · rw [Nat.min_eq_left h]
  · rw [Nat.min_eq_right (by omega)]
    have h1 : n < 2 ^ (n.log2 + 1) := Nat.lt_log2_self
    have h2 : 2 ^ (n.log2 + 1) ≤ 2 ^ (n.log2 + 2) := Nat.pow_le_pow_right (by omega) (by omega)
    have h3 : 2 ^ (n.log2 + 2) ≤ 2 ^ drop := Nat.pow_le_pow_right (by omega) (by omega)
    rw [Nat.div_eq_of_lt (by omega), Nat.div_eq_of_lt (by omega)]
theorem cut_down (neg : Bool) (n drop : Nat) : Toward.down.cut neg n drop = if neg then (n + (2 ^ drop - 1)) / 2 ^ drop else n / 2 ^ drop := by
  have hg : 0 < 2 ^ drop := Nat.two_pow_pos _
  cases neg
  · simp only [Bool.false_eq_true, if_false]
    rw [← cut_zero false]
    unfold Toward.cut
    rfl
  · simp only [if_true]
    unfold Toward.cut
    simp only [Nat.shiftLeft_eq, Nat.one_mul, Bool.true_and]
    by_cases h : drop ≤ n.log2 + 2
    · rw [Nat.min_eq_left h]
      have hd := Nat.div_add_mod n (2 ^ drop)
      have hm := Nat.mod_lt n hg
      generalize 2 ^ drop = g at *
      have hq : (n + (g - 1)) / g = n / g + (n % g + (g - 1)) / g := by
        have e : n + (g - 1) = (n % g + (g - 1)) + g * (n / g) := by omega
        rw [e, Nat.add_mul_div_left _ _ hg, Nat.add_comm]
      rw [hq]
      congr 1
      by_cases h0 : n % g = 0
      · rw [h0, Nat.zero_add, Nat.div_eq_of_lt (by omega)]; rfl
      · rw [show (n % g + (g - 1)) / g = 1 from by
          rw [show n % g + (g - 1) = (n % g - 1) + g * 1 by omega, Nat.add_mul_div_left _ _ hg, Nat.div_eq_of_lt (by omega)]]
        simp [h0]
    · rw [Nat.min_eq_right (by omega)]
      have h1 : n < 2 ^ (n.log2 + 1) := Nat.lt_log2_self
      have h2 : 2 ^ (n.log2 + 2) = 2 * 2 ^ (n.log2 + 1) := by rw [Nat.pow_succ, Nat.mul_comm]
      have h3 : 2 ^ (n.log2 + 2) ≤ 2 ^ drop := Nat.pow_le_pow_right (by omega) (by omega)
      have hlt : n < 2 ^ (n.log2 + 2) := by omega
      rw [Nat.div_eq_of_lt hlt, Nat.mod_eq_of_lt hlt, Nat.zero_add]
      by_cases h0 : n = 0
      · subst h0
        rw [Nat.zero_add, Nat.div_eq_of_lt (by omega)]; rfl
      · rw [show (n + (2 ^ drop - 1)) / 2 ^ drop = 1 from by
          rw [show n + (2 ^ drop - 1) = (n - 1) + 2 ^ drop * 1 by omega, Nat.add_mul_div_left _ _ hg, Nat.div_eq_of_lt (by omega)]]
        simp [h0]
/-- A number's whole part against the number, in units. -/
theorem whole_units (m : Nat) (i : Int) (hi : -1074 ≤ i) (q : Nat) :
    (q * 2 ^ (-i).toNat ≤ m * 2 ^ i.toNat → q * D2 ≤ vN m i) ∧ (m * 2 ^ i.toNat < q * 2 ^ (-i).toNat → vN m i < q * D2) ∧ (m * 2 ^ i.toNat ≤ q * 2 ^ (-i).toNat → vN m i ≤ q * D2) ∧ (q * 2 ^ (-i).toNat < m * 2 ^ i.toNat → q * D2 < vN m i) := by
  obtain ⟨e, he⟩ : ∃ e : Nat, e = (i + 2148).toNat - i.toNat := ⟨_, rfl⟩
  have e1 : (i + 2148).toNat = i.toNat + e := by omega
  have e2 : u2148 = (-i).toNat + e := by unfold u2148; omega
  have hg : 0 < 2 ^ e := Nat.two_pow_pos _
  have a1 : vN m i = m * 2 ^ i.toNat * 2 ^ e := by unfold vN; rw [e1, Nat.pow_add, Nat.mul_assoc]
  have a2 : q * D2 = q * 2 ^ (-i).toNat * 2 ^ e := by unfold D2; rw [e2, Nat.pow_add, Nat.mul_assoc]
  rw [a1, a2]
  exact ⟨fun h => Nat.mul_le_mul_right _ h, fun h => Nat.mul_lt_mul_of_pos_right h hg, fun h => Nat.mul_le_mul_right _ h, fun h => Nat.mul_lt_mul_of_pos_right h hg⟩
end
section
open Ieee
/-- What a finite word's sign and magnitude say of its number. -/
theorem fr_open {x : Nat} {r : Rat} (hx : FR x r) : ∃ s m i, double.read x = .number s m i ∧ -1074 ≤ i ∧ r * (D2 : Nat) = (if s then -((vN m i : Nat) : Rat) else ((vN m i : Nat) : Rat)) := by
  obtain ⟨V, ⟨s, m, i, h1, h2, h3⟩, e⟩ := hx
  refine ⟨s, m, i, h1, h2, ?_⟩
  rw [e, h3]
  unfold vI
  cases s
  · simp only [Bool.false_eq_true, if_false]; rfl
  · simp only [if_true]; rw [Rat.intCast_neg]; rfl
theorem le_units {r : Rat} {q v : Nat} (hr : r * (D2 : Nat) = ((v : Nat) : Rat)) (h : q * D2 ≤ v) : (q : Rat) ≤ r := by
  refine Rat.le_of_mul_le_mul_right ?_ D2r
  rw [hr, ← Rat.natCast_mul]
  exact_mod_cast h
theorem ge_units {r : Rat} {q v : Nat} (hr : r * (D2 : Nat) = ((v : Nat) : Rat)) (h : v ≤ q * D2) : r ≤ (q : Rat) := by
  refine Rat.le_of_mul_le_mul_right ?_ D2r
  rw [hr, ← Rat.natCast_mul]
  exact_mod_cast h
theorem gt_units {r : Rat} {q v : Nat} (hr : r * (D2 : Nat) = ((v : Nat) : Rat)) (h : q * D2 < v) : (q : Rat) < r := by
  refine Rat.lt_of_mul_lt_mul_right ?_ (Rat.le_of_lt D2r)
  rw [hr, ← Rat.natCast_mul]
  exact_mod_cast h
theorem lt_units {r : Rat} {q v : Nat} (hr : r * (D2 : Nat) = ((v : Nat) : Rat)) (h : v < q * D2) : r < (q : Rat) := by
  refine Rat.lt_of_mul_lt_mul_right ?_ (Rat.le_of_lt D2r)
  rw [hr, ← Rat.natCast_mul]
  exact_mod_cast h
/-- 'int(x)': the number cut towards zero. -/
theorem fr_trunc {x : Nat} {r : Rat} (hx : FR x r) : ∃ t : Int, (double.read x).toInt .zero = some t ∧ (0 ≤ r → (t : Rat) ≤ r ∧ r < (t : Rat) + 1) ∧ (r ≤ 0 → (t : Rat) - 1 < r ∧ r ≤ (t : Rat)) := by
  obtain ⟨s, m, i, h1, h2, h3⟩ := fr_open hx
  obtain ⟨q, hq⟩ : ∃ q, q = Toward.zero.cut s (m <<< i.toNat) (-i).toNat := ⟨_, rfl⟩
  have e : (double.read x).toInt .zero = some (signed s q 0) := by rw [h1, hq]; rfl
  rw [cut_zero, Nat.shiftLeft_eq] at hq
  have hg : 0 < 2 ^ (-i).toNat := Nat.two_pow_pos _
  have a1 : q * D2 ≤ vN m i := (whole_units m i h2 q).1 (by rw [hq]; exact Nat.div_mul_le_self _ _)
  have a2 : vN m i < (q + 1) * D2 := (whole_units m i h2 (q + 1)).2.1 (by
    rw [hq]
    have := Nat.lt_div_mul_add (a := m * 2 ^ i.toNat) hg
    rw [Nat.add_mul, Nat.one_mul]; exact this)
  refine ⟨_, e, ?_⟩
  unfold signed
  rw [Nat.shiftLeft_zero]
  have hD := D2r
  cases s
  · simp only [Bool.false_eq_true, if_false] at h3 ⊢
    have b1 := le_units h3 a1
    have b2 := lt_units h3 a2
    have b3 : ((q + 1 : Nat) : Rat) = (q : Rat) + 1 := by rw [Rat.natCast_add]; rfl
    rw [b3] at b2
    have b4 : (0 : Rat) ≤ (q : Rat) := Rat.natCast_nonneg
    rw [show (((q : Nat) : Int) : Rat) = (q : Rat) from rfl]
    exact ⟨fun _ => ⟨b1, b2⟩, fun h => by constructor <;> grind⟩
  · simp only [if_true] at h3 ⊢
    have h4 : (-r) * (D2 : Nat) = ((vN m i : Nat) : Rat) := by grind
    have b1 := le_units h4 a1
    have b2 := lt_units h4 a2
    have b3 : ((q + 1 : Nat) : Rat) = (q : Rat) + 1 := by rw [Rat.natCast_add]; rfl
    rw [b3] at b2
    have b4 : (0 : Rat) ≤ (q : Rat) := Rat.natCast_nonneg
    rw [Rat.intCast_neg, show (((q : Nat) : Int) : Rat) = (q : Rat) from rfl]
    exact ⟨fun h => by constructor <;> grind, fun _ => by constructor <;> grind⟩
theorem small_tops {k : Nat} (h : k < 2 ^ 53) : vN k 0 ≤ tops 53 := by
  have e : tops 53 = 2 ^ 53 * D2 := by
    unfold tops D2
    rw [show 2148 + 53 = 53 + u2148 from rfl, Nat.pow_add]
  rw [vN_one, e]
  exact Nat.mul_le_mul_right _ (Nat.le_of_lt h)
theorem write_whole (s : Bool) (k : Nat) (h : k < 2 ^ 53) : double.write (.number s k 0) < 2 ^ 64 ∧ FR (double.write (.number s k 0)) (if s then -(k : Rat) else (k : Rat)) := by
  obtain ⟨h1, h2⟩ := write_exact s k 0 (by decide) h 53 (by decide) (small_tops h)
  refine ⟨h1, _, h2, ?_⟩
  unfold vI
  rw [vN_one]
  cases s
  · simp only [Bool.false_eq_true, if_false]
    rw [← Rat.natCast_mul]; rfl
  · simp only [if_true]
    rw [Rat.intCast_neg, show (((k * D2 : Nat) : Int) : Rat) = ((k * D2 : Nat) : Rat) from rfl, Rat.natCast_mul]; grind
/-- A word made whole towards the nearest even: within half, if it is small. -/
theorem fr_even {x : Nat} {r : Rat} (hx : FR x r) (hb : r ≤ 2000000000) (hb2 : -r ≤ 2000000000) : ∃ t : Int, double.write ((double.read x).integral .even) < 2 ^ 64 ∧ FR (double.write ((double.read x).integral .even)) (t : Rat) ∧ t.natAbs ≤ 2000000000 ∧ (t : Rat) - r ≤ 1 / 2 ∧ r - (t : Rat) ≤ 1 / 2 := by
  obtain ⟨s, m, i, h1, h2, h3⟩ := fr_open hx
  obtain ⟨k, hk⟩ : ∃ k, k = Toward.even.cut s (m <<< i.toNat) (-i).toNat := ⟨_, rfl⟩
  have e : (double.read x).integral .even = .number s k 0 := by rw [h1, hk]; rfl
  rw [Nat.shiftLeft_eq] at hk
  obtain ⟨c1, c2⟩ := cut_even s (m * 2 ^ i.toNat) (-i).toNat
  rw [← hk] at c1 c2
  obtain ⟨f, hf⟩ : ∃ f : Nat, f = (i + 2148).toNat - i.toNat := ⟨_, rfl⟩
  have e1 : (i + 2148).toNat = i.toNat + f := by omega
  have e2 : u2148 = (-i).toNat + f := by unfold u2148; omega
  have a1 : vN m i = m * 2 ^ i.toNat * 2 ^ f := by unfold vN; rw [e1, Nat.pow_add, Nat.mul_assoc]
  have a2 : D2 = 2 ^ (-i).toNat * 2 ^ f := by unfold D2; rw [e2, Nat.pow_add]
  have d1 : 2 * (k * D2) ≤ 2 * vN m i + D2 := by
    have := Nat.mul_le_mul_right (2 ^ f) c1
    rw [Nat.add_mul] at this
    rw [a1, a2]
    generalize 2 ^ (-i).toNat = G at *
    generalize 2 ^ f = F at *
    generalize m * 2 ^ i.toNat = n at *
    rw [show 2 * (k * (G * F)) = 2 * (k * G) * F by ac_rfl, show 2 * (n * F) = 2 * n * F by ac_rfl]
    exact this
  have d2 : 2 * vN m i ≤ 2 * (k * D2) + D2 := by
    have := Nat.mul_le_mul_right (2 ^ f) c2
    rw [Nat.add_mul] at this
    rw [a1, a2]
    generalize 2 ^ (-i).toNat = G at *
    generalize 2 ^ f = F at *
    generalize m * 2 ^ i.toNat = n at *
    rw [show 2 * (k * (G * F)) = 2 * (k * G) * F by ac_rfl, show 2 * (n * F) = 2 * n * F by ac_rfl]
    exact this
  have hD := D2r
  have d3 : 2 * ((k : Rat) * (D2 : Nat)) ≤ 2 * ((vN m i : Nat) : Rat) + (D2 : Nat) := by exact_mod_cast d1
  have d4 : 2 * ((vN m i : Nat) : Rat) ≤ 2 * ((k : Rat) * (D2 : Nat)) + (D2 : Nat) := by exact_mod_cast d2
  obtain ⟨R, hR⟩ : ∃ R : Rat, R = if s then -r else r := ⟨_, rfl⟩
  have hRD : R * (D2 : Nat) = ((vN m i : Nat) : Rat) := by
    rw [hR]
    cases s
    · simpa using h3
    · simp only [if_true] at h3 ⊢; grind
  rw [← hRD] at d3 d4
  have g1 : (k : Rat) - R ≤ 1 / 2 := by
    refine Rat.le_of_mul_le_mul_right ?_ hD; grind
  have g2 : R - (k : Rat) ≤ 1 / 2 := by
    refine Rat.le_of_mul_le_mul_right ?_ hD; grind
  have hRb : R ≤ 2000000000 := by
    rw [hR]; split
    · exact hb2
    · exact hb
  have hkb : k ≤ 2000000000 := by
    have h5 : 2 * (k : Rat) ≤ 4000000001 := by grind
    have h6 : 2 * k ≤ 4000000001 := by exact_mod_cast h5
    omega
  obtain ⟨w1, w2⟩ := write_whole s k (by omega)
  rw [e]
  cases s
  · simp only [Bool.false_eq_true, if_false] at hR w2
    subst hR
    exact ⟨(k : Int), w1, w2, by omega, g1, g2⟩
  · simp only [if_true] at hR w2
    subst hR
    refine ⟨-(k : Int), w1, by rw [Rat.intCast_neg]; exact w2, by omega, ?_, ?_⟩
    · rw [Rat.intCast_neg, show (((k : Nat) : Int) : Rat) = (k : Rat) from rfl]; grind
    · rw [Rat.intCast_neg, show (((k : Nat) : Int) : Rat) = (k : Rat) from rfl]; grind
/-- A word made whole downwards. -/
theorem fr_floor {x : Nat} {r : Rat} (hx : FR x r) (hb : r ≤ 2000000000) (hb2 : -r ≤ 2000000000) : ∃ t : Int, double.write ((double.read x).integral .down) < 2 ^ 64 ∧ FR (double.write ((double.read x).integral .down)) (t : Rat) ∧ t.natAbs ≤ 2000000000 ∧ (t : Rat) ≤ r ∧ r < (t : Rat) + 1 := by
  obtain ⟨s, m, i, h1, h2, h3⟩ := fr_open hx
  obtain ⟨k, hk⟩ : ∃ k, k = Toward.down.cut s (m <<< i.toNat) (-i).toNat := ⟨_, rfl⟩
  have e : (double.read x).integral .down = .number s k 0 := by rw [h1, hk]; rfl
  rw [cut_down, Nat.shiftLeft_eq] at hk
  have hg : 0 < 2 ^ (-i).toNat := Nat.two_pow_pos _
  rw [e]
  cases s
  · simp only [Bool.false_eq_true, if_false] at h3 hk
    have b1 := le_units h3 ((whole_units m i h2 k).1 (by rw [hk]; exact Nat.div_mul_le_self _ _))
    have b2 := lt_units h3 ((whole_units m i h2 (k + 1)).2.1 (by
      rw [hk]
      have := Nat.lt_div_mul_add (a := m * 2 ^ i.toNat) hg
      rw [Nat.add_mul, Nat.one_mul]; exact this))
    have b3 : ((k + 1 : Nat) : Rat) = (k : Rat) + 1 := by rw [Rat.natCast_add]; rfl
    rw [b3] at b2
    have hkb : k ≤ 2000000000 := by
      have h5 : (k : Rat) ≤ 2000000000 := by grind
      exact_mod_cast h5
    obtain ⟨w1, w2⟩ := write_whole false k (by omega)
    simp only [Bool.false_eq_true, if_false] at w2
    exact ⟨(k : Int), w1, w2, by omega, b1, b2⟩
  · simp only [if_true] at h3 hk
    have h4 : (-r) * (D2 : Nat) = ((vN m i : Nat) : Rat) := by grind
    have hkg : m * 2 ^ i.toNat ≤ k * 2 ^ (-i).toNat := by
      have := Nat.lt_div_mul_add (a := m * 2 ^ i.toNat + (2 ^ (-i).toNat - 1)) hg
      rw [← hk] at this; omega
    have b1 := ge_units h4 ((whole_units m i h2 k).2.2.1 hkg)
    have b2 : (k : Rat) < -r + 1 := by
      by_cases h0 : k = 0
      · subst h0
        have b0 : (0 : Rat) ≤ -r := by
          have := le_units h4 (q := 0) (by omega)
          simpa using this
        have e0 : ((0 : Nat) : Rat) = 0 := rfl
        rw [e0]; grind
      · have hq : (k - 1) * 2 ^ (-i).toNat < m * 2 ^ i.toNat := by
          have h5 : k * 2 ^ (-i).toNat ≤ m * 2 ^ i.toNat + (2 ^ (-i).toNat - 1) := by rw [hk]; exact Nat.div_mul_le_self _ _
          have h6 : k * 2 ^ (-i).toNat = (k - 1) * 2 ^ (-i).toNat + 2 ^ (-i).toNat := by
            have := Nat.add_mul (k - 1) 1 (2 ^ (-i).toNat)
            rw [Nat.one_mul, show k - 1 + 1 = k by omega] at this; exact this
          omega
        have h7 := gt_units h4 ((whole_units m i h2 (k - 1)).2.2.2 hq)
        have h8 : ((k : Nat) : Rat) = ((k - 1 : Nat) : Rat) + 1 := by
          rw [show k = (k - 1) + 1 by omega, Rat.natCast_add, show k - 1 + 1 - 1 = k - 1 by omega]; rfl
        rw [h8]; grind
    have hkb : k ≤ 2000000000 := by
      have h5 : (k : Rat) < 2000000001 := by grind
      have h6 : k < 2000000001 := by exact_mod_cast h5
      omega
    obtain ⟨w1, w2⟩ := write_whole true k (by omega)
    simp only [if_true] at w2
    refine ⟨-(k : Int), w1, by rw [Rat.intCast_neg]; exact w2, by omega, ?_, ?_⟩
    · rw [Rat.intCast_neg, show (((k : Nat) : Int) : Rat) = (k : Rat) from rfl]; grind
    · rw [Rat.intCast_neg, show (((k : Nat) : Int) : Rat) = (k : Rat) from rfl]; grind
end
section
open Ieee
/-- r is at most e, without its sign. -/
def Ab (r e : Rat) : Prop := r ≤ e ∧ -r ≤ e
theorem Ab.mono {r e f : Rat} (h : Ab r e) (hf : e ≤ f) : Ab r f := ⟨Rat.le_trans h.1 hf, Rat.le_trans h.2 hf⟩
theorem Ab.add {a b e f : Rat} (h : Ab a e) (k : Ab b f) : Ab (a + b) (e + f) := by
  obtain ⟨h1, h2⟩ := h
  obtain ⟨k1, k2⟩ := k
  constructor <;> grind
theorem Ab.sub {a b e f : Rat} (h : Ab a e) (k : Ab b f) : Ab (a - b) (e + f) := by
  obtain ⟨h1, h2⟩ := h
  obtain ⟨k1, k2⟩ := k
  constructor <;> grind
theorem Ab.neg {a e : Rat} (h : Ab a e) : Ab (-a) e := by
  obtain ⟨h1, h2⟩ := h
  constructor <;> grind
theorem Ab.mul {a b e f : Rat} (h : Ab a e) (k : Ab b f) : Ab (a * b) (e * f) := by
  obtain ⟨h1, h2⟩ := h
  obtain ⟨k1, k2⟩ := k
  have p1 : 0 ≤ (e - a) * (f + b) := Rat.mul_nonneg (by grind) (by grind)
  have p2 : 0 ≤ (e + a) * (f - b) := Rat.mul_nonneg (by grind) (by grind)
  have p3 : 0 ≤ (e - a) * (f - b) := Rat.mul_nonneg (by grind) (by grind)
  have p4 : 0 ≤ (e + a) * (f + b) := Rat.mul_nonneg (by grind) (by grind)
  constructor <;> grind
theorem Ab.zero : Ab 0 0 := ⟨Rat.le_refl, by grind⟩
theorem Ab.nonneg {a e : Rat} (h : Ab a e) : 0 ≤ e := by
  obtain ⟨h1, h2⟩ := h
  grind
/-- near: c is within e of v. -/
theorem Ab.of {c v e : Rat} (h : c - v ≤ e ∧ v - c ≤ e) : Ab (c - v) e := ⟨h.1, by have := h.2; grind⟩
theorem two_pow_pos (K : Nat) : (0 : Rat) < (2 : Rat) ^ K := Rat.pow_pos (by decide)
theorem eps_nonneg (K : Nat) : 0 ≤ eps K := by
  have := two_pow_pos K
  unfold eps
  have h2 : (0 : Rat) ≤ (2 : Rat) ^ K := Rat.le_of_lt this
  grind
theorem eps_next (K : Nat) : eps (K + 1) = 2 * eps K := by
  unfold eps
  rw [Rat.pow_succ]; grind
theorem eps_le (K : Nat) : 2 * eps K ≤ (2 : Rat) ^ K := by
  have := two_pow_pos K
  unfold eps
  have h2 : (0 : Rat) ≤ (2 : Rat) ^ K := Rat.le_of_lt this
  grind
/-- A complex number of two words. -/
def FC (x y : Nat) (a b : Rat) : Prop := FR x a ∧ FR y b
theorem fa_add {x y : Nat} {a b : Rat} (hx : FR x a) (hy : FR y b) (K : Nat) (hK : K ≤ 900) (h : Ab (a + b) ((2 : Rat) ^ K)) :
    ∃ z c, floatBits .add .f64 x y = some z ∧ z < 2 ^ 64 ∧ FR z c ∧ Ab (c - (a + b)) (eps K) := by
  obtain ⟨z, c, h1, h2, h3, h4⟩ := fr_add hx hy K hK h.1 h.2
  exact ⟨z, c, h1, h2, h3, Ab.of h4⟩
theorem fa_sub {x y : Nat} {a b : Rat} (hx : FR x a) (hy : FR y b) (K : Nat) (hK : K ≤ 900) (h : Ab (a - b) ((2 : Rat) ^ K)) :
    ∃ z c, floatBits .sub .f64 x y = some z ∧ z < 2 ^ 64 ∧ FR z c ∧ Ab (c - (a - b)) (eps K) := by
  obtain ⟨z, c, h1, h2, h3, h4⟩ := fr_sub hx hy K hK h.1 h.2
  exact ⟨z, c, h1, h2, h3, Ab.of h4⟩
theorem fa_mul {x y : Nat} {a b : Rat} (hx : FR x a) (hy : FR y b) (K : Nat) (hK : K ≤ 900) (h : Ab (a * b) ((2 : Rat) ^ K)) :
    ∃ z c, floatBits .mul .f64 x y = some z ∧ z < 2 ^ 64 ∧ FR z c ∧ Ab (c - a * b) (eps K) := by
  obtain ⟨z, c, h1, h2, h3, h4⟩ := fr_mul hx hy K hK h.1 h.2
  exact ⟨z, c, h1, h2, h3, Ab.of h4⟩
theorem fc_add {x y u v : Nat} {a b c d : Rat} (h : FC x y a b) (k : FC u v c d) (K : Nat) (hK : K ≤ 900) (h1 : Ab (a + c) ((2 : Rat) ^ K)) (h2 : Ab (b + d) ((2 : Rat) ^ K)) :
    ∃ p q e f, cSumBits .add .f64 x y u v = some (p, q) ∧ FC p q e f ∧ Ab (e - (a + c)) (eps K) ∧ Ab (f - (b + d)) (eps K) := by
  obtain ⟨p, e, p1, _, p3, p4⟩ := fa_add h.1 k.1 K hK h1
  obtain ⟨q, f, q1, _, q3, q4⟩ := fa_add h.2 k.2 K hK h2
  exact ⟨p, q, e, f, by unfold cSumBits; rw [p1, q1]; rfl, ⟨p3, q3⟩, p4, q4⟩
theorem fc_sub {x y u v : Nat} {a b c d : Rat} (h : FC x y a b) (k : FC u v c d) (K : Nat) (hK : K ≤ 900) (h1 : Ab (a - c) ((2 : Rat) ^ K)) (h2 : Ab (b - d) ((2 : Rat) ^ K)) :
    ∃ p q e f, cSumBits .sub .f64 x y u v = some (p, q) ∧ FC p q e f ∧ Ab (e - (a - c)) (eps K) ∧ Ab (f - (b - d)) (eps K) := by
  obtain ⟨p, e, p1, _, p3, p4⟩ := fa_sub h.1 k.1 K hK h1
  obtain ⟨q, f, q1, _, q3, q4⟩ := fa_sub h.2 k.2 K hK h2
  exact ⟨p, q, e, f, by unfold cSumBits; rw [p1, q1]; rfl, ⟨p3, q3⟩, p4, q4⟩
/-- The product of complex numbers: within six halves of the last digit of a product of parts. -/
theorem fc_mul {x y u v : Nat} {a b c d P Q : Rat} (h : FC x y a b) (k : FC u v c d) (K : Nat) (hK : K ≤ 890) (ha : Ab a P) (hb : Ab b P) (hc : Ab c Q) (hd : Ab d Q) (hPQ : P * Q ≤ (2 : Rat) ^ K) :
    ∃ p q e f, cMulBits x y u v = some (p, q) ∧ FC p q e f ∧ Ab (e - (a * c - b * d)) (6 * eps K) ∧ Ab (f - (a * d + b * c)) (6 * eps K) := by
  have hac := (ha.mul hc).mono hPQ
  have hbd := (hb.mul hd).mono hPQ
  have had := (ha.mul hd).mono hPQ
  have hbc := (hb.mul hc).mono hPQ
  obtain ⟨s, s', s1, _, s3, s4⟩ := fa_mul h.1 k.1 K (by omega) hac
  obtain ⟨t, t', t1, _, t3, t4⟩ := fa_mul h.2 k.2 K (by omega) hbd
  obtain ⟨m, m', m1, _, m3, m4⟩ := fa_mul h.1 k.2 K (by omega) had
  obtain ⟨n, n', n1, _, n3, n4⟩ := fa_mul h.2 k.1 K (by omega) hbc
  have e1 := eps_next K
  have e2 := eps_next (K + 1)
  have e3 := eps_le K
  have e4 : (2 : Rat) ^ (K + 1 + 1) = 4 * (2 : Rat) ^ K := by rw [Rat.pow_succ, Rat.pow_succ]; grind
  have e5 := two_pow_pos K
  have hre : Ab (s' - t') ((2 : Rat) ^ (K + 1 + 1)) := by
    rw [e4]
    obtain ⟨a1, a2⟩ := hac
    obtain ⟨b1, b2⟩ := hbd
    obtain ⟨c1, c2⟩ := s4
    obtain ⟨d1, d2⟩ := t4
    constructor <;> grind
  have him : Ab (m' + n') ((2 : Rat) ^ (K + 1 + 1)) := by
    rw [e4]
    obtain ⟨a1, a2⟩ := had
    obtain ⟨b1, b2⟩ := hbc
    obtain ⟨c1, c2⟩ := m4
    obtain ⟨d1, d2⟩ := n4
    constructor <;> grind
  obtain ⟨p, e, p1, _, p3, p4⟩ := fa_sub s3 t3 (K + 1 + 1) (by omega) hre
  obtain ⟨q, f, q1, _, q3, q4⟩ := fa_add m3 n3 (K + 1 + 1) (by omega) him
  refine ⟨p, q, e, f, by unfold cMulBits; rw [s1, t1, m1, n1]; simp only [Option.bind_some, p1, q1], ⟨p3, q3⟩, ?_, ?_⟩
  · rw [e2, e1] at p4
    obtain ⟨a1, a2⟩ := p4
    obtain ⟨c1, c2⟩ := s4
    obtain ⟨d1, d2⟩ := t4
    constructor <;> grind
  · rw [e2, e1] at q4
    obtain ⟨a1, a2⟩ := q4
    obtain ⟨c1, c2⟩ := m4
    obtain ⟨d1, d2⟩ := n4
    constructor <;> grind
end
section
open Ieee
/-- What a word stands for, in units of 2 ^ -200, if it is a whole number of them. -/
def num200 (x : Nat) : Option Int :=
  match double.read x with
  | .number s m i => if m = 0 then some 0 else if -200 ≤ i then some (signed s m (i + 200).toNat) else none
  | _ => none
def u1948 : Nat := 1948
def p200 : Nat := 2 ^ 200
theorem p200_D2 : D2 = p200 * 2 ^ u1948 := by
  unfold D2 p200
  rw [show u2148 = 200 + u1948 from rfl, Nat.pow_add]
theorem p200_pos : (0 : Rat) < (p200 : Nat) := by
  have h : 0 < p200 := Nat.two_pow_pos 200
  exact_mod_cast h
theorem fr_num {x : Nat} {V : Int} (h : num200 x = some V) : FR x ((V : Rat) / (p200 : Nat)) := by
  unfold num200 at h
  cases hr : double.read x with
  | number s m i =>
    rw [hr] at h
    have hi : -1074 ≤ i := by
      have e4 : double.leastPlace = -1074 := rfl
      unfold Format.read at hr
      simp only [e4] at hr
      split at hr
      · cases hr; exact Int.le_refl _
      · split at hr
        · cases hr; omega
        · split at hr <;> cases hr
    simp only at h
    have hp := p200_pos
    have hD : ((D2 : Nat) : Rat) = (p200 : Nat) * ((2 ^ u1948 : Nat) : Rat) := by rw [p200_D2, Rat.natCast_mul]
    by_cases h0 : m = 0
    · rw [if_pos h0] at h
      cases h
      refine ⟨0, ⟨s, m, i, hr, hi, ?_⟩, ?_⟩
      · subst h0; unfold vI vN; rw [Nat.zero_mul]; cases s <;> rfl
      · have e0 : ((0 : Int) : Rat) = 0 := rfl
        rw [e0]; grind
    · rw [if_neg h0] at h
      split at h
      · rename_i hi2
        cases h
        refine ⟨_, ⟨s, m, i, hr, hi, rfl⟩, ?_⟩
        have e : vI s m i = signed s m (i + 200).toNat * ((2 ^ u1948 : Nat) : Int) := by
          unfold vI vN signed
          rw [show (i + 2148).toNat = (i + 200).toNat + u1948 by unfold u1948; omega, Nat.pow_add, Nat.shiftLeft_eq, ← Nat.mul_assoc]
          cases s
          · simp only [Bool.false_eq_true, if_false]; rw [Int.natCast_mul]
          · simp only [if_true]; rw [Int.natCast_mul, Int.neg_mul]
        rw [e, Rat.intCast_mul, hD, show (((2 ^ u1948 : Nat) : Int) : Rat) = ((2 ^ u1948 : Nat) : Rat) from rfl]
        grind
      · cases h
  | infinity s => rw [hr] at h; cases h
  | nan s f => rw [hr] at h; cases h
end
section
open Ieee
theorem read_mag {x : Nat} {s : Bool} {m : Nat} {i : Int} (h : double.read x = .number s m i) : m < 2 ^ 53 ∧ -1074 ≤ i ∧ i ≤ 971 := by
  have e1 : double.signWeight = 2 ^ 63 := rfl
  have e2 : double.binade = 2 ^ 52 := rfl
  have e3 : double.infRung = 2047 * 2 ^ 52 := rfl
  have e4 : double.leastPlace = -1074 := rfl
  unfold Format.read at h
  simp only [e1, e2, e3, e4] at h
  split at h
  · cases h; omega
  · split at h
    · cases h; omega
    · split at h <;> cases h
/-- A word divided by a power of two. -/
theorem fa_div2 {x y : Nat} {a : Rat} (hx : FR x a) (e : Nat) (he : e ≤ 8) (hy : double.read y = .number false (2 ^ 52) ((e : Int) - 52)) (K : Nat) (hK : K ≤ 900) (b : Rat) (hb : b * (2 : Rat) ^ e = a) (h : Ab b ((2 : Rat) ^ K)) :
    ∃ z c, floatBits .quo .f64 x y = some z ∧ z < 2 ^ 64 ∧ FR z c ∧ Ab (c - b) (eps K) := by
  obtain ⟨V, ⟨s, m, i, h1, h2, h3⟩, eV⟩ := hx
  obtain ⟨hm, _, _⟩ := read_mag h1
  have hlog : m.log2 ≤ 52 := by
    by_cases h0 : m = 0
    · subst h0; decide
    · have := (Nat.log2_lt h0).2 hm; omega
  obtain ⟨more, hmore⟩ : ∃ more, more = 54 + (2 ^ 52 : Nat).log2 - m.log2 := ⟨_, rfl⟩
  have hl52 : (2 ^ 52 : Nat).log2 = 52 := by decide
  have hdiv : m <<< more / 2 ^ 52 = m * 2 ^ (more - 52) := by
    rw [Nat.shiftLeft_eq, show more = (more - 52) + 52 by omega, Nat.pow_add, ← Nat.mul_assoc, Nat.mul_div_cancel _ (by decide), show more - 52 + 52 - 52 = more - 52 by omega]
  have hmod : m <<< more % 2 ^ 52 = 0 := by
    rw [Nat.shiftLeft_eq, show more = (more - 52) + 52 by omega, Nat.pow_add, ← Nat.mul_assoc, Nat.mul_mod_left]
  have eq : Datum.quotient 54 (.number s m i) (.number false (2 ^ 52) ((e : Int) - 52)) = some (.number s (2 * (m * 2 ^ (more - 52))) (i - ((e : Int) - 52) - more - 1)) := by
    unfold Datum.quotient
    simp only
    rw [if_neg (by decide), ← hmore, hdiv, hmod]
    cases s <;> rfl
  have ed : floatBits .quo .f64 x y = some (double.write (.number s (2 * (m * 2 ^ (more - 52))) (i - ((e : Int) - 52) - more - 1))) := by
    unfold floatBits
    show double.div x y = _
    unfold Format.div
    rw [h1, hy]
    show Option.map double.write (Datum.quotient 54 _ _) = _
    rw [eq]; rfl
  have hv : vN (2 * (m * 2 ^ (more - 52))) (i - ((e : Int) - 52) - more - 1) * 2 ^ e = vN m i := by
    unfold vN
    have e1 : 2 * (m * 2 ^ (more - 52)) = m * 2 ^ (more - 51) := by
      rw [show more - 51 = (more - 52) + 1 by omega, Nat.pow_succ]; ac_rfl
    rw [e1, Nat.mul_assoc, Nat.mul_assoc, ← Nat.pow_add, ← Nat.pow_add]
    congr 2; omega
  obtain ⟨w, hw⟩ : ∃ w, w = vI s (2 * (m * 2 ^ (more - 52))) (i - ((e : Int) - 52) - more - 1) := ⟨_, rfl⟩
  have hwV : w * ((2 ^ e : Nat) : Int) = V := by
    rw [hw, h3]
    unfold vI
    have hvi : (vN (2 * (m * 2 ^ (more - 52))) (i - ((e : Int) - 52) - more - 1) : Int) * ((2 ^ e : Nat) : Int) = (vN m i : Int) := by rw [← Int.natCast_mul, hv]
    cases s
    · simp only [Bool.false_eq_true, if_false]; exact hvi
    · simp only [if_true]; rw [Int.neg_mul, hvi]
  have hpe : (0 : Rat) < (2 : Rat) ^ e := two_pow_pos e
  have hbw : b * (D2 : Nat) = (w : Rat) := by
    have q : (w : Rat) * (2 : Rat) ^ e = (V : Rat) := by
      rw [← hwV, Rat.intCast_mul, show (((2 ^ e : Nat) : Int) : Rat) = ((2 ^ e : Nat) : Rat) from rfl, Rat.natCast_pow]; rfl
    rw [← eV, ← hb] at q
    generalize (2 : Rat) ^ e = P at *
    have q2 : (b * (D2 : Nat)) * P = (w : Rat) * P := by rw [q]; grind
    exact Rat.le_antisymm (Rat.le_of_mul_le_mul_right (by rw [q2]; exact Rat.le_refl) hpe) (Rat.le_of_mul_le_mul_right (by rw [q2]; exact Rat.le_refl) hpe)
  obtain ⟨g1, c, g2, g3⟩ := write_ok s (2 * (m * 2 ^ (more - 52))) (i - ((e : Int) - 52) - more - 1) (by omega) K hK w hw (bound_of hbw h.1 h.2)
  have hp := D2r
  have ec : ((c : Rat) / (D2 : Nat)) * (D2 : Nat) = (c : Rat) := by grind
  exact ⟨_, (c : Rat) / (D2 : Nat), ed, g1, ⟨c, g2, ec⟩, Ab.of (near_of ec hbw g3)⟩
end
section
open Ieee
set_option maxRecDepth 20000
/-- The steps of math.Round. -/
def rndE (x : Nat) : Int := bits BinOp.and IntKind.u64 ((x : Int) / 4503599627370496) 2047
def rndLow (x : Nat) : Nat := (bits BinOp.and IntKind.u64 (x : Int) 9223372036854775808).toNat
def rndOne (x : Nat) : Nat := (bits BinOp.or IntKind.u64 (bits BinOp.and IntKind.u64 (x : Int) 9223372036854775808) 4607182418800017408).toNat
def rndMid (x : Nat) : Nat := (bits BinOp.andNot IntKind.u64 (IntKind.u64.wrap ((x : Int) + 2251799813685248 / 2 ^ (rndE x - 1023).toNat)) (4503599627370495 / 2 ^ (rndE x - 1023).toNat)).toNat
def roundW (x : Nat) : Nat := if rndE x < 1023 then (if rndE x = 1022 then rndOne x else rndLow x) else if rndE x < 1075 then rndMid x else x
theorem wraps_u64 (n : Int) (h₀ : 0 ≤ n) (h₁ : n < 2 ^ 64) : IntKind.u64.wrap n = n := by rw [IntKind.wrap_u64]; omega
theorem rndE_is (x : Nat) (h : x < 2 ^ 64) : rndE x = ((x / 2 ^ 52 % 2048 : Nat) : Int) := by
  unfold rndE
  rw [show (x : Int) / 4503599627370496 = ((x / 2 ^ 52 : Nat) : Int) by omega]
  have := bits_mask .u64 64 (by decide) wraps_u64 11 (by decide) ((x / 2 ^ 52 : Nat) : Int) (by omega) (by omega)
  rw [show (2047 : Int) = 2 ^ 11 - 1 by decide, this]
  omega
theorem and_high (x : Nat) (h : x < 2 ^ 64) : bits BinOp.and IntKind.u64 (x : Int) 9223372036854775808 = ((x / 2 ^ 63 * 2 ^ 63 : Nat) : Int) := by
  have e := bits_and_u64_nat x (2 ^ 63) (by omega) (by decide)
  rw [show (9223372036854775808 : Int) = ((2 ^ 63 : Nat) : Int) by decide, e]
  congr 1
  rw [Nat.mul_comm]
  apply Nat.eq_of_testBit_eq
  intro i
  rw [Nat.testBit_and, Nat.testBit_two_pow, Nat.testBit_two_pow_mul, Nat.testBit_div_two_pow]
  rcases (show i < 63 ∨ i = 63 ∨ 63 < i by omega) with c | c | c
  · rw [decide_eq_false (show ¬ 63 = i by omega), decide_eq_false (show ¬ i ≥ 63 by omega), Bool.and_false, Bool.false_and]
  · subst c
    rw [decide_eq_true rfl, decide_eq_true (Nat.le_refl _), Bool.and_true, Bool.true_and]
  · have : x.testBit i = false := Nat.testBit_lt_two_pow (Nat.lt_of_lt_of_le h (Nat.pow_le_pow_right (by omega) (by omega)))
    rw [show i - 63 + 63 = i by omega, this, Bool.false_and, Bool.and_false]
theorem rndLow_is (x : Nat) (h : x < 2 ^ 64) : rndLow x = x / 2 ^ 63 * 2 ^ 63 := by unfold rndLow; rw [and_high x h, Int.toNat_natCast]
theorem rndOne_is (x : Nat) (h : x < 2 ^ 64) : rndOne x = x / 2 ^ 63 * 2 ^ 63 + 1023 * 2 ^ 52 := by
  unfold rndOne
  rw [and_high x h]
  have h2 : x / 2 ^ 63 ≤ 1 := by omega
  rw [bits_join .u64 64 (by decide) wraps_u64 63 ((x / 2 ^ 63 * 2 ^ 63 : Nat) : Int) 4607182418800017408 (by omega) (by omega) (by omega) (by decide) (by decide) (by decide)]
  omega
theorem andNot_low (y j : Nat) (hy : y < 2 ^ 64) (hj : j ≤ 64) : bits BinOp.andNot IntKind.u64 (y : Int) ((2 ^ j - 1 : Nat) : Int) = ((y - y % 2 ^ j : Nat) : Int) := by
  have h1 : (BitVec.ofInt 64 (y : Int)).toNat = y := by
    rw [BitVec.ofInt_natCast, BitVec.toNat_ofNat]; exact Nat.mod_eq_of_lt (by omega)
  have hp : 2 ^ j ≤ 2 ^ 64 := Nat.pow_le_pow_right (by omega) hj
  have h0 : 0 < 2 ^ j := Nat.two_pow_pos j
  have h2 : (BitVec.ofInt 64 ((2 ^ j - 1 : Nat) : Int)).toNat = 2 ^ j - 1 := by
    rw [BitVec.ofInt_natCast, BitVec.toNat_ofNat]; exact Nat.mod_eq_of_lt (by omega)
  have key : (BitVec.ofInt 64 (y : Int) &&& ~~~ BitVec.ofInt 64 ((2 ^ j - 1 : Nat) : Int)).toNat = y - y % 2 ^ j := by
    have e : y - y % 2 ^ j = 2 ^ j * (y / 2 ^ j) := by
      have := Nat.div_add_mod y (2 ^ j)
      omega
    rw [e]
    apply Nat.eq_of_testBit_eq
    intro i
    rw [Nat.testBit_two_pow_mul, BitVec.testBit_toNat, BitVec.getLsbD_and, BitVec.getLsbD_not, ← BitVec.testBit_toNat, ← BitVec.testBit_toNat, h1, h2, Nat.testBit_two_pow_sub_one, Nat.testBit_div_two_pow]
    by_cases c : j ≤ i
    · rw [show i - j + j = i by omega]
      by_cases d : i < 64
      · rw [decide_eq_true c, decide_eq_true d, decide_eq_false (show ¬ i < j by omega)]
        simp only [Bool.not_false, Bool.true_and, Bool.and_true]
      · have : y.testBit i = false := Nat.testBit_lt_two_pow (Nat.lt_of_lt_of_le hy (Nat.pow_le_pow_right (by omega) (by omega)))
        rw [this, Bool.false_and, Bool.and_false]
    · rw [decide_eq_false (show ¬ i ≥ j from c), decide_eq_true (show i < j by omega)]
      simp only [Bool.not_true, Bool.and_false, Bool.false_and]
  show IntKind.u64.wrap ((BitVec.ofInt 64 (y : Int) &&& ~~~ BitVec.ofInt 64 ((2 ^ j - 1 : Nat) : Int)).toNat : Int) = _
  rw [key]
  exact wraps_u64 _ (by omega) (by omega)
theorem rndMid_is (x e : Nat) (h : x < 2 ^ 64) (hE : x / 2 ^ 52 % 2048 = 1023 + e) (he : e ≤ 51) : rndMid x = (x + 2 ^ (51 - e)) - (x + 2 ^ (51 - e)) % 2 ^ (52 - e) := by
  unfold rndMid
  rw [rndE_is x h, hE, show (((1023 + e : Nat) : Int) - 1023).toNat = e by omega]
  have p1 : 2 ^ 51 / 2 ^ e = 2 ^ (51 - e) := Nat.pow_div he (by omega)
  have p2 : (2 ^ 52 - 1) / 2 ^ e = 2 ^ (52 - e) - 1 := by
    have e1 : 2 ^ 52 = 2 ^ (52 - e) * 2 ^ e := by rw [← Nat.pow_add]; congr 1; omega
    have h0 : 0 < 2 ^ e := Nat.two_pow_pos e
    have h1 : 0 < 2 ^ (52 - e) := Nat.two_pow_pos _
    rw [e1]
    generalize 2 ^ (52 - e) = a at *
    generalize 2 ^ e = b at *
    have e2 : a * b - 1 = (b - 1) + b * (a - 1) := by
      obtain ⟨a', rfl⟩ : ∃ a', a = a' + 1 := ⟨a - 1, by omega⟩
      rw [Nat.add_mul, Nat.one_mul, Nat.add_sub_cancel, Nat.mul_comm b]; omega
    rw [e2, Nat.add_mul_div_left _ _ h0, Nat.div_eq_of_lt (by omega)]; omega
  have q1 : (2251799813685248 : Int) / 2 ^ e = ((2 ^ (51 - e) : Nat) : Int) := by
    rw [← p1, Int.natCast_ediv, Int.natCast_pow 2 e]; rfl
  have q2 : (4503599627370495 : Int) / 2 ^ e = ((2 ^ (52 - e) - 1 : Nat) : Int) := by
    rw [← p2, Int.natCast_ediv, Int.natCast_pow 2 e]; rfl
  have hle : 2 ^ (51 - e) ≤ 2 ^ 51 := Nat.pow_le_pow_right (by omega) (by omega)
  have hx : x + 2 ^ (51 - e) < 2 ^ 64 := by
    have hE2 : x / 2 ^ 52 % 2048 ≤ 1074 := by omega
    omega
  have hw : IntKind.u64.wrap ((x : Int) + ((2 ^ (51 - e) : Nat) : Int)) = ((x + 2 ^ (51 - e) : Nat) : Int) := by
    generalize 2 ^ (51 - e) = P at *
    rw [show (x : Int) + (P : Int) = ((x + P : Nat) : Int) by push_cast; rfl]
    exact wraps_u64 _ (by omega) (by omega)
  rw [q1, q2, hw, andNot_low _ _ hx (by omega), Int.toNat_natCast]
theorem vN_up (m k : Nat) (i : Int) (hi : -1074 ≤ i) : vN (m * 2 ^ k) i = vN m (i + k) := by
  unfold vN
  rw [Nat.mul_assoc, ← Nat.pow_add]
  congr 2; omega
/-- What a word stands for, by its sign and its rung. -/
theorem fr_rung {x : Nat} {r : Rat} (hx : FR x r) (h : x < 2 ^ 64) : ∃ (s : Bool) (R : Nat), x = (if s then 2 ^ 63 else 0) + R ∧ R < 2047 * 2 ^ 52 ∧ x / 2 ^ 63 * 2 ^ 63 = (if s then 2 ^ 63 else 0) ∧ x / 2 ^ 52 % 2048 = R / 2 ^ 52 ∧ r * (D2 : Nat) = (if s then -((vN (if R < 2 ^ 52 then R else 2 ^ 52 + R % 2 ^ 52) (if R < 2 ^ 52 then -1074 else -1074 + ((R / 2 ^ 52 - 1 : Nat) : Int)) : Nat) : Rat) else ((vN (if R < 2 ^ 52 then R else 2 ^ 52 + R % 2 ^ 52) (if R < 2 ^ 52 then -1074 else -1074 + ((R / 2 ^ 52 - 1 : Nat) : Int)) : Nat) : Rat)) := by
  obtain ⟨s, m, i, h1, h2, h3⟩ := fr_open hx
  obtain ⟨t, ht⟩ : ∃ t : Bool, x / 2 ^ 63 = (if t then 1 else 0) := by
    rcases (show x / 2 ^ 63 = 0 ∨ x / 2 ^ 63 = 1 by omega) with e | e
    · exact ⟨false, e⟩
    · exact ⟨true, e⟩
  have hR : x % 2 ^ 63 < 2047 * 2 ^ 52 := by
    refine Nat.lt_of_not_le (fun c => ?_)
    unfold Format.read at h1
    have e1 : double.signWeight = 2 ^ 63 := rfl
    have e2 : double.binade = 2 ^ 52 := rfl
    have e3 : double.infRung = 2047 * 2 ^ 52 := rfl
    simp only [e1, e2, e3] at h1
    rw [if_neg (by omega), if_neg (by omega)] at h1
    split at h1 <;> cases h1
  have hxw : x = double.word t (x % 2 ^ 63) := by
    unfold Format.word
    have e1 : double.signWeight = 2 ^ 63 := rfl
    rw [e1]
    have := Nat.div_add_mod x (2 ^ 63)
    cases t <;> simp only [Bool.false_eq_true, if_true, if_false] at ht ⊢ <;> omega
  rw [hxw, read_word t _ hR] at h1
  refine ⟨t, x % 2 ^ 63, ?_, hR, ?_, by omega, ?_⟩
  · have := Nat.div_add_mod x (2 ^ 63)
    cases t <;> simp only [Bool.false_eq_true, if_true, if_false] at ht ⊢ <;> omega
  · cases t <;> simp only [Bool.false_eq_true, if_true, if_false] at ht ⊢ <;> omega
  · by_cases c : x % 2 ^ 63 < 2 ^ 52
    · rw [if_pos c] at h1
      cases h1
      rw [if_pos c, if_pos c]; exact h3
    · rw [if_neg c] at h1
      cases h1
      rw [if_neg c, if_neg c]; exact h3
/-- A word made of a sign and a rung. -/
theorem fr_word (s : Bool) (R : Nat) (hR : R < 2047 * 2 ^ 52) (N : Nat) (hN : vN (if R < 2 ^ 52 then R else 2 ^ 52 + R % 2 ^ 52) (if R < 2 ^ 52 then -1074 else -1074 + ((R / 2 ^ 52 - 1 : Nat) : Int)) = N * D2) : FR ((if s then 2 ^ 63 else 0) + R) (if s then -(N : Rat) else (N : Rat)) := by
  have hw : (if s then 2 ^ 63 else 0) + R = double.word s R := by
    unfold Format.word
    have e1 : double.signWeight = 2 ^ 63 := rfl
    rw [e1]
    cases s <;> simp
  rw [hw]
  have hr := read_word s R hR
  have hI : ∀ m i, vN m i = N * D2 → (if s then -(N : Rat) else (N : Rat)) * (D2 : Nat) = ((vI s m i : Int) : Rat) := fun m i h => by
    unfold vI
    rw [h]
    cases s
    · simp only [Bool.false_eq_true, if_false]; rw [show (((N * D2 : Nat) : Int) : Rat) = ((N * D2 : Nat) : Rat) from rfl, Rat.natCast_mul]
    · simp only [if_true]; rw [Rat.intCast_neg, show (((N * D2 : Nat) : Int) : Rat) = ((N * D2 : Nat) : Rat) from rfl, Rat.natCast_mul]; grind
  by_cases c : R < 2 ^ 52
  · rw [if_pos c] at hr
    rw [if_pos c, if_pos c] at hN
    exact ⟨_, ⟨s, _, _, hr, by omega, rfl⟩, hI _ _ hN⟩
  · rw [if_neg c] at hr
    rw [if_neg c, if_neg c] at hN
    exact ⟨_, ⟨s, _, _, hr, by omega, rfl⟩, hI _ _ hN⟩
theorem round_close {r : Rat} {s : Bool} {V N : Nat} (hr : r * (D2 : Nat) = (if s then -(V : Rat) else (V : Rat))) (h1 : 2 * (N * D2) ≤ 2 * V + D2) (h2 : 2 * V ≤ 2 * (N * D2) + D2) : ∃ t : Int, (t : Rat) = (if s then -(N : Rat) else (N : Rat)) ∧ (t : Rat) - r ≤ 1 / 2 ∧ r - (t : Rat) ≤ 1 / 2 := by
  have hD := D2r
  have d3 : 2 * ((N : Rat) * (D2 : Nat)) ≤ 2 * (V : Rat) + (D2 : Nat) := by exact_mod_cast h1
  have d4 : 2 * (V : Rat) ≤ 2 * ((N : Rat) * (D2 : Nat)) + (D2 : Nat) := by exact_mod_cast h2
  cases s
  · simp only [Bool.false_eq_true, if_false] at hr ⊢
    rw [← hr] at d3 d4
    refine ⟨(N : Int), rfl, ?_, ?_⟩
    · refine Rat.le_of_mul_le_mul_right ?_ hD
      rw [show (((N : Nat) : Int) : Rat) = (N : Rat) from rfl]; grind
    · refine Rat.le_of_mul_le_mul_right ?_ hD
      rw [show (((N : Nat) : Int) : Rat) = (N : Rat) from rfl]; grind
  · simp only [if_true] at hr ⊢
    have hr2 : (V : Rat) = -r * (D2 : Nat) := by grind
    rw [hr2] at d3 d4
    refine ⟨-(N : Int), by rw [Rat.intCast_neg]; rfl, ?_, ?_⟩
    · refine Rat.le_of_mul_le_mul_right ?_ hD
      rw [Rat.intCast_neg, show (((N : Nat) : Int) : Rat) = (N : Rat) from rfl]; grind
    · refine Rat.le_of_mul_le_mul_right ?_ hD
      rw [Rat.intCast_neg, show (((N : Nat) : Int) : Rat) = (N : Rat) from rfl]; grind
theorem D2_split (k : Nat) (hk : k ≤ u2148) : D2 = 2 ^ k * 2 ^ (u2148 - k) := by
  unfold D2
  rw [← Nat.pow_add]; congr 1; omega
theorem fr_round {x : Nat} {r : Rat} (hx : FR x r) (h : x < 2 ^ 64) (hb : Ab r 1099511627776) : ∃ t : Int, FR (roundW x) (t : Rat) ∧ (t : Rat) - r ≤ 1 / 2 ∧ r - (t : Rat) ≤ 1 / 2 := by
  obtain ⟨s, R, hxR, hR, hs, hE, hr⟩ := fr_rung hx h
  have hrE := rndE_is x h
  rw [hE] at hrE
  obtain ⟨V, hV⟩ : ∃ V, V = vN (if R < 2 ^ 52 then R else 2 ^ 52 + R % 2 ^ 52) (if R < 2 ^ 52 then -1074 else -1074 + ((R / 2 ^ 52 - 1 : Nat) : Int)) := ⟨_, rfl⟩
  rw [← hV] at hr
  have hD := D2_pos
  by_cases c1 : R / 2 ^ 52 < 1023
  · by_cases c2 : R / 2 ^ 52 = 1022
    · have e : roundW x = (if s then 2 ^ 63 else 0) + 1023 * 2 ^ 52 := by
        unfold roundW
        rw [hrE, if_pos (by omega), if_pos (by omega), rndOne_is x h, hs]
      obtain ⟨k, hk⟩ : ∃ k : Nat, k = 2095 := ⟨_, rfl⟩
      have hV2 : V = (2 ^ 52 + R % 2 ^ 52) * 2 ^ k := by
        rw [hV, if_neg (by omega), if_neg (by omega), c2]
        unfold vN
        congr 2; omega
      have hD2 : D2 = 2 ^ k * 2 ^ 53 := by rw [D2_split k (by unfold u2148; omega), show u2148 - k = 53 by unfold u2148; omega]
      obtain ⟨t, t1, t2, t3⟩ := round_close (N := 1) hr (by
        rw [hV2, hD2]; generalize 2 ^ k = P; have : R % 2 ^ 52 * P ≥ 0 := Nat.zero_le _; rw [Nat.add_mul]; omega) (by
        rw [hV2, hD2]
        have : R % 2 ^ 52 * 2 ^ k ≤ 2 ^ 52 * 2 ^ k := Nat.mul_le_mul_right _ (by omega)
        generalize 2 ^ k = P at *
        rw [Nat.add_mul]; omega)
      refine ⟨t, ?_, t2, t3⟩
      rw [e, t1]
      refine fr_word s _ (by decide) 1 ?_
      rw [if_neg (by decide), if_neg (by decide)]
      have hD3 : D2 = 2 ^ (k + 1) * 2 ^ 52 := by rw [D2_split (k + 1) (by unfold u2148; omega), show u2148 - (k + 1) = 52 by unfold u2148; omega]
      rw [hD3, Nat.one_mul, Nat.mul_comm (2 ^ (k + 1))]
      unfold vN
      congr 2
      omega
    · have e : roundW x = (if s then 2 ^ 63 else 0) + 0 := by
        unfold roundW
        rw [hrE, if_pos (by omega), if_neg (by omega), rndLow_is x h, hs, Nat.add_zero]
      have hV2 : 2 * V ≤ D2 := by
        obtain ⟨m, i, hm, hi, hmi⟩ : ∃ m i, V = vN m i ∧ i ≤ -54 ∧ m < 2 ^ 53 := ⟨_, _, hV, by split <;> omega, by split <;> omega⟩
        rw [hm, D2_split (i + 2148).toNat (by unfold u2148; omega)]
        unfold vN
        have h54 : 2 ^ 54 ≤ 2 ^ (u2148 - (i + 2148).toNat) := Nat.pow_le_pow_right (by omega) (by unfold u2148; omega)
        rw [← Nat.mul_assoc, Nat.mul_comm]
        exact Nat.mul_le_mul_left _ (by omega)
      obtain ⟨t, t1, t2, t3⟩ := round_close (N := 0) hr (by omega) (by omega)
      refine ⟨t, ?_, t2, t3⟩
      rw [e, t1]
      refine fr_word s 0 (by decide) 0 ?_
      rw [if_pos (by decide), if_pos (by decide)]
      unfold vN
      rw [Nat.zero_mul, Nat.zero_mul]
  · obtain ⟨e, he⟩ : ∃ e, R / 2 ^ 52 = 1023 + e := ⟨R / 2 ^ 52 - 1023, by omega⟩
    obtain ⟨m, hm⟩ : ∃ m, m = 2 ^ 52 + R % 2 ^ 52 := ⟨_, rfl⟩
    have hVm : V = m * 2 ^ (e + 2096) := by
      rw [hV, if_neg (by omega), if_neg (by omega), he, ← hm]
      unfold vN
      congr 2; omega
    have he51 : e ≤ 51 := by
      refine Nat.le_of_not_lt (fun c => ?_)
      have hbig : 4503599627370496 * D2 ≤ V := by
        have he2 : u2148 ≤ e + 2096 := by unfold u2148; omega
        have hm52 : 4503599627370496 ≤ m := by omega
        rw [hVm]
        have hd2 : D2 ≤ 2 ^ (e + 2096) := by
          unfold D2
          exact Nat.pow_le_pow_right (by decide) he2
        exact Nat.mul_le_mul hm52 hd2
      have h1 : (4503599627370496 : Rat) * (D2 : Nat) ≤ (V : Rat) := by exact_mod_cast hbig
      have hDr := D2r
      clear hbig hVm hV hm he c hE hrE
      have h2 : (V : Rat) ≤ 1099511627776 * (D2 : Nat) := by
        obtain ⟨b1, b2⟩ := hb
        cases s
        · simp only [Bool.false_eq_true, if_false] at hr
          rw [← hr]; exact Rat.mul_le_mul_of_nonneg_right b1 (Rat.le_of_lt hDr)
        · simp only [if_true] at hr
          have := Rat.mul_le_mul_of_nonneg_right b2 (Rat.le_of_lt hDr); grind
      grind
    obtain ⟨u, hu⟩ : ∃ u, u = 2 ^ (51 - e) := ⟨_, rfl⟩
    have hu2 : 2 ^ (52 - e) = 2 * u := by rw [hu, show 52 - e = (51 - e) + 1 by omega, Nat.pow_succ, Nat.mul_comm]
    have hu0 : 0 < u := by rw [hu]; exact Nat.two_pow_pos _
    obtain ⟨T, hT⟩ : ∃ T, T = (m + u) / (2 * u) := ⟨_, rfl⟩
    have hdm := Nat.div_add_mod (m + u) (2 * u)
    have hml := Nat.mod_lt (m + u) (show 0 < 2 * u by omega)
    rw [← hT] at hdm
    have hTu : T * (2 * u) = 2 * u * T := Nat.mul_comm _ _
    have hDk : D2 = 2 ^ (e + 2096) * (2 * u) := by
      have hs1 : e + 2096 ≤ u2148 := by unfold u2148; omega
      have hs2 : u2148 - (e + 2096) = 52 - e := by unfold u2148; omega
      rw [D2_split (e + 2096) hs1, hs2, hu2]
    obtain ⟨t, t1, t2, t3⟩ := round_close (N := T) hr (by
        rw [hVm, hDk]
        have hh : 2 * (2 * u * T) ≤ 2 * m + 2 * u := by omega
        have : 2 * (2 * u * T) * 2 ^ (e + 2096) ≤ (2 * m + 2 * u) * 2 ^ (e + 2096) := Nat.mul_le_mul_right _ hh
        generalize 2 ^ (e + 2096) = P at *
        rw [show 2 * (T * (P * (2 * u))) = 2 * (2 * u * T) * P by ac_rfl, show 2 * (m * P) + P * (2 * u) = (2 * m + 2 * u) * P by rw [Nat.add_mul]; congr 1 <;> ac_rfl]; exact this) (by
        rw [hVm, hDk]
        have hh : 2 * m ≤ 2 * (2 * u * T) + 2 * u := by omega
        have : (2 * m) * 2 ^ (e + 2096) ≤ (2 * (2 * u * T) + 2 * u) * 2 ^ (e + 2096) := Nat.mul_le_mul_right _ hh
        generalize 2 ^ (e + 2096) = P at *
        rw [show 2 * (m * P) = (2 * m) * P by ac_rfl, show 2 * (T * (P * (2 * u))) + P * (2 * u) = (2 * (2 * u * T) + 2 * u) * P by rw [Nat.add_mul]; congr 1 <;> ac_rfl]; exact this)
    have hc52 : 2 ^ 52 = 2 * u * 2 ^ e := by rw [← hu2, ← Nat.pow_add]; congr 1; omega
    have hTlo : 2 ^ 52 ≤ 2 * u * T := by
      have : 2 ^ e ≤ T := by
        rw [hT, Nat.le_div_iff_mul_le (by omega), Nat.mul_comm, ← hc52]; omega
      rw [hc52]; exact Nat.mul_le_mul_left _ this
    have hThi : 2 * u * T ≤ 2 ^ 53 := by
      have : T ≤ 2 * 2 ^ e := by
        rw [hT]
        refine Nat.le_of_lt_succ ((Nat.div_lt_iff_lt_mul (by omega)).2 ?_)
        have e1 : (2 * 2 ^ e).succ * (2 * u) = 2 * (2 * u * 2 ^ e) + 2 * u := by rw [Nat.succ_mul]; congr 1; ac_rfl
        rw [e1, ← hc52]; omega
      have h2 := Nat.mul_le_mul_left (2 * u) this
      have e1 : 2 * u * (2 * 2 ^ e) = 2 * (2 * u * 2 ^ e) := by ac_rfl
      rw [e1, ← hc52] at h2; omega
    have hsu : ∃ c, (if s then 2 ^ 63 else 0) + (1022 + e) * 2 ^ 52 = 2 * u * c := by
      cases s
      · exact ⟨(1022 + e) * 2 ^ e, by simp only [Bool.false_eq_true, if_false]; rw [hc52, Nat.zero_add]; ac_rfl⟩
      · refine ⟨2 ^ e * 2048 + (1022 + e) * 2 ^ e, ?_⟩
        simp only [if_true]
        rw [Nat.mul_add, show (2 ^ 63 : Nat) = 2 ^ 52 * 2048 from rfl, hc52]
        congr 1 <;> ac_rfl
    obtain ⟨c, hc⟩ := hsu
    have hw : roundW x = (if s then 2 ^ 63 else 0) + ((1022 + e) * 2 ^ 52 + 2 * u * T) := by
      unfold roundW
      rw [hrE, if_neg (by omega), if_pos (by omega), rndMid_is x e h (by omega) he51, ← hu, hu2]
      have hxm : x + u = 2 * u * c + (m + u) := by
        rw [← hc, hm, hxR]
        have := Nat.div_add_mod R (2 ^ 52)
        rw [he] at this
        omega
      rw [hxm, Nat.mul_add_mod, ← Nat.add_assoc (if s then 2 ^ 63 else 0), hc]
      clear hc hxm hE hrE hr hV hVm hDk hc52
      omega
    refine ⟨t, ?_, t2, t3⟩
    rw [hw, t1]
    refine fr_word s _ (by omega) T ?_
    rw [if_neg (by omega), if_neg (by omega), hDk]
    by_cases c53 : 2 * u * T < 2 ^ 53
    · rw [show ((1022 + e) * 2 ^ 52 + 2 * u * T) / 2 ^ 52 = 1023 + e by omega, show 2 ^ 52 + ((1022 + e) * 2 ^ 52 + 2 * u * T) % 2 ^ 52 = 2 * u * T by omega]
      unfold vN
      rw [show (-1074 + ((1023 + e - 1 : Nat) : Int) + 2148).toNat = e + 2096 by omega]
      generalize 2 ^ (e + 2096) = P
      ac_rfl
    · have h53 : 2 * u * T = 2 ^ 53 := by omega
      rw [show ((1022 + e) * 2 ^ 52 + 2 * u * T) / 2 ^ 52 = 1024 + e by omega, show 2 ^ 52 + ((1022 + e) * 2 ^ 52 + 2 * u * T) % 2 ^ 52 = 2 ^ 52 by omega]
      unfold vN
      have hpp : 2 ^ (e + 2096 + 1) = 2 ^ (e + 2096) * 2 := Nat.pow_succ ..
      rw [show (-1074 + ((1024 + e - 1 : Nat) : Int) + 2148).toNat = (e + 2096) + 1 by omega, hpp]
      generalize 2 ^ (e + 2096) = P
      rw [show T * (P * (2 * u)) = (2 * u * T) * P by ac_rfl, h53, Nat.mul_comm P 2, ← Nat.mul_assoc]
end
end Go.Proofs.YtghacjhempmejaaDoor
