/-
  The roots of unity as complex numbers of rational parts: they are nearly multiplicative. Closed facts.
-/
import Derived.Test.YtghacjhempmejaaDoorDftCt
namespace Go.Proofs.YtghacjhempmejaaDoor
theorem rt_len : rtT.length = 256 := by decide +kernel
def rt (a : Nat) : Int × Int := rtT.getD a (0, 0)
theorem rt_get {a : Nat} (h : a < 256) : rtT[a]? = some (rt a) := by
  unfold rt
  rw [List.getD_eq_getElem?_getD, List.getElem?_eq_getElem (by rw [rt_len]; exact h)]; rfl
/-- The root with the index a, of 256. -/
def cT (a : Nat) : CQ := ⟨((rt a).1 : Rat) / (p200 : Nat), ((rt a).2 : Rat) / (p200 : Nat)⟩
theorem two200_is : two200 = ((p200 : Nat) : Int) := rfl
theorem ab_int {Z : Int} {N : Nat} (h : Z.natAbs ≤ N) {P : Rat} (hP : 0 < P) : Ab ((Z : Rat) / P) ((N : Rat) / P) := by
  obtain ⟨h1, h2⟩ := abs_cast h
  have hi : (0 : Rat) ≤ P⁻¹ := Rat.le_of_lt (Rat.inv_pos.2 hP)
  constructor
  · rw [Rat.div_def, Rat.div_def]; exact Rat.mul_le_mul_of_nonneg_right h1 hi
  · have := Rat.mul_le_mul_of_nonneg_right h2 hi
    rw [Rat.div_def, Rat.div_def]
    rw [Rat.neg_mul] at this; exact this
theorem cT_zero : cT 0 = CQ.one := by
  have e : rt 0 = (two200, 0) := by decide +kernel
  have hp := p200_pos
  refine CQ.eq ?_ ?_ <;> simp only [cT, e, CQ.one, two200_is]
  · rw [show (((p200 : Nat) : Int) : Rat) = ((p200 : Nat) : Rat) from rfl]; grind
  · rw [show ((0 : Int) : Rat) = 0 from rfl]; grind
theorem cT_half : cT 128 = ⟨-1, 0⟩ := by
  have e : rt 128 = (-two200, 0) := by decide +kernel
  have hp := p200_pos
  refine CQ.eq ?_ ?_ <;> simp only [cT, e, two200_is]
  · rw [Rat.intCast_neg, show (((p200 : Nat) : Int) : Rat) = ((p200 : Nat) : Rat) from rfl]; grind
  · rw [show ((0 : Int) : Rat) = 0 from rfl]; grind
theorem cT_small {a : Nat} (h : a < 256) : Nr (cT a) 1 := by
  have h1 := List.all_eq_true.1 small_all (rt a) (List.mem_of_getElem? (rt_get h))
  simp only [Bool.and_eq_true, Nat.ble_eq] at h1
  have hp := p200_pos
  have e : ((p200 : Nat) : Rat) / (p200 : Nat) = 1 := by grind
  have e2 : two200.natAbs = p200 := rfl
  rw [e2] at h1
  have a1 := ab_int h1.1 hp
  have a2 := ab_int h1.2 hp
  rw [e] at a1 a2
  exact ⟨a1, a2⟩
/-- The error of a product of two roots of which one has a power of two as its index. -/
def d0 : Rat := ((bound202 : Nat) : Rat) / ((p200 : Nat) * (p200 : Nat))
theorem d0_nonneg : 0 ≤ d0 := by
  unfold d0
  have hp := p200_pos
  have h : (0 : Rat) < ((p200 : Nat) : Rat) * (p200 : Nat) := Rat.mul_pos hp hp
  rw [Rat.div_def]
  exact Rat.mul_nonneg Rat.natCast_nonneg (Rat.le_of_lt (Rat.inv_pos.2 h))
theorem cT_step {a i : Nat} (ha : a < 256) (hi : i < 8) : Cl ((cT a).mul (cT (2 ^ i))) (cT ((a + 2 ^ i) % 256)) d0 := by
  have hz := List.all_eq_true.1 mul_all i (List.mem_range.2 hi)
  have h2 : 2 ^ i ≤ 128 := Nat.pow_le_pow_right (n := 2) (i := i) (j := 7) (by omega) (by omega)
  have hr : (rtT.drop (2 ^ i) ++ rtT.take (2 ^ i))[a]? = some (rt ((a + 2 ^ i) % 256)) := by
    rw [← rt_get (Nat.mod_lt _ (by omega))]
    generalize 2 ^ i = s at *
    by_cases c : a + s < 256
    · rw [List.getElem?_append_left (by rw [List.length_drop, rt_len]; omega), List.getElem?_drop, Nat.mod_eq_of_lt c, Nat.add_comm]
    · rw [List.getElem?_append_right (by rw [List.length_drop, rt_len]; omega), List.length_drop, rt_len, List.getElem?_take_of_lt (by omega)]
      congr 1; omega
  have h := zipAll_get hz (rt_get ha) hr
  rw [show rtT.getD (2 ^ i) (0, 0) = rt (2 ^ i) from rfl] at h
  unfold okMul at h
  simp only [Bool.and_eq_true, Nat.ble_eq] at h
  unfold cT
  generalize rt a = x at *
  generalize rt (2 ^ i) = y at *
  generalize rt ((a + 2 ^ i) % 256) = z at *
  have hp := p200_pos
  have hpp : (0 : Rat) < ((p200 : Nat) : Rat) * (p200 : Nat) := Rat.mul_pos hp hp
  have a1 := ab_int h.1 hpp
  have a2 := ab_int h.2 hpp
  rw [two200_is] at a1 a2
  refine ⟨?_, ?_⟩
  · simp only [CQ.mul, CQ.sub]
    rw [show d0 = ((bound202 : Nat) : Rat) / ((p200 : Nat) * (p200 : Nat)) from rfl]
    rw [Rat.intCast_sub, Rat.intCast_sub, Rat.intCast_mul, Rat.intCast_mul, Rat.intCast_mul, show (((p200 : Nat) : Int) : Rat) = ((p200 : Nat) : Rat) from rfl] at a1
    generalize ((p200 : Nat) : Rat) = P at *
    have e : (x.1 : Rat) / P * ((y.1 : Rat) / P) - (x.2 : Rat) / P * ((y.2 : Rat) / P) - (z.1 : Rat) / P = ((x.1 : Rat) * y.1 - (x.2 : Rat) * y.2 - (z.1 : Rat) * P) / (P * P) := by grind
    rw [e]; exact a1
  · simp only [CQ.mul, CQ.sub]
    rw [show d0 = ((bound202 : Nat) : Rat) / ((p200 : Nat) * (p200 : Nat)) from rfl]
    rw [Rat.intCast_sub, Rat.intCast_add, Rat.intCast_mul, Rat.intCast_mul, Rat.intCast_mul, show (((p200 : Nat) : Int) : Rat) = ((p200 : Nat) : Rat) from rfl] at a2
    generalize ((p200 : Nat) : Rat) = P at *
    have e : (x.1 : Rat) / P * ((y.2 : Rat) / P) + (x.2 : Rat) / P * ((y.1 : Rat) / P) - (z.2 : Rat) / P = ((x.1 : Rat) * y.2 + (x.2 : Rat) * y.1 - (z.2 : Rat) * P) / (P * P) := by grind
    rw [e]; exact a2
/-- The error of a product of any two roots. -/
def dE : Nat → Rat
  | 0 => 0
  | i + 1 => 3 * d0 + 2 * dE i
theorem cT_mul_pow (i : Nat) (hi : i ≤ 8) (a b : Nat) (ha : a < 256) (hb : b < 2 ^ i) : Cl ((cT a).mul (cT b)) (cT ((a + b) % 256)) (dE i) := by
  induction i generalizing a b with
  | zero =>
    obtain rfl : b = 0 := by simpa using hb
    rw [cT_zero, Nat.add_zero, Nat.mod_eq_of_lt ha, show (cT a).mul CQ.one = cT a from CQ.eq (by simp only [CQ.mul, CQ.one]; grind) (by simp only [CQ.mul, CQ.one]; grind)]
    exact Cl.refl _
  | succ i ih =>
    have hn := d0_nonneg
    have hE : 0 ≤ dE i := by
      have := (ih (by omega) 0 0 (by omega) (Nat.two_pow_pos _)).1.nonneg
      exact this
    have h2 : 2 ^ (i + 1) = 2 * 2 ^ i := by rw [Nat.pow_succ, Nat.mul_comm]
    have h256 : 2 ^ i ≤ 128 := Nat.pow_le_pow_right (n := 2) (i := i) (j := 7) (by omega) (by omega)
    by_cases c : b < 2 ^ i
    · exact (ih (by omega) a b ha c).mono (by show dE i ≤ 3 * d0 + 2 * dE i; grind)
    · obtain ⟨b', rfl⟩ : ∃ b', b = b' + 2 ^ i := ⟨b - 2 ^ i, by omega⟩
      have hb' : b' < 2 ^ i := by omega
      have k1 := cT_step (a := b') (i := i) (by omega) (by omega)
      rw [Nat.mod_eq_of_lt (by omega : b' + 2 ^ i < 256)] at k1
      have k2 := Cl.mul (Cl.refl (cT a)) k1.symm (cT_small ha) ((cT_small (a := b') (by omega)).mul (cT_small (a := 2 ^ i) (by omega)))
      rw [← CQ.mul_assoc] at k2
      have k3 := Cl.mul (ih (by omega) a b' ha hb') (Cl.refl (cT (2 ^ i))) ((cT_small ha).mul (cT_small (a := b') (by omega))) (cT_small (a := 2 ^ i) (by omega))
      have k4 := cT_step (a := (a + b') % 256) (i := i) (Nat.mod_lt _ (by omega)) (by omega)
      rw [Nat.mod_add_mod, Nat.add_assoc] at k4
      exact ((k2.trans k3).trans k4).mono (by
        show _ ≤ 3 * d0 + 2 * dE i
        grind)
/-- The error of a product of two roots, once for all. -/
def dR : Rat := 1 / 1267650600228229401496703205376
theorem dE_le : dE 8 ≤ dR := by decide +kernel
theorem cT_mul {a b : Nat} (ha : a < 256) (hb : b < 256) : Cl ((cT a).mul (cT b)) (cT ((a + b) % 256)) dR := (cT_mul_pow 8 (by omega) a b ha hb).mono dE_le
end Go.Proofs.YtghacjhempmejaaDoor
