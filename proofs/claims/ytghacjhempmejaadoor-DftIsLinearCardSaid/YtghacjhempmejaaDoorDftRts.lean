/-
  The roots of unity of each size: what their words stand for, and that they are nearly the powers of a root. Closed facts.
-/
import Derived.Test.YtghacjhempmejaaDoorDftCu
import Derived.Test.YtghacjhempmejaaDoorDftRoots
namespace Go.Proofs.YtghacjhempmejaaDoor
open Ieee
/-- How far a root's word may be from the root. -/
def dW : Rat := 1 / 4503599627370496
def nearB (x : Nat) (t : Int) : Bool := match num200 x with | some V => Nat.ble (V - t).natAbs 356811923176489970264571492362373784095686656 | none => false
theorem near_all : zipAll (fun (p : Nat × Nat) (t : Int × Int) => nearB p.1 t.1 && nearB p.2 t.2) rootTab rtT = true := by decide +kernel
theorem nearB_fr {x : Nat} {t : Int} (h : nearB x t = true) : ∃ c : Rat, FR x c ∧ Ab (c - (t : Rat) / (p200 : Nat)) dW := by
  unfold nearB at h
  split at h
  · rename_i V hV
    rw [Nat.ble_eq] at h
    refine ⟨_, fr_num hV, ?_⟩
    have hp := p200_pos
    have a := ab_int h hp
    rw [Rat.intCast_sub] at a
    have e1 : ((V : Rat) - (t : Rat)) / (p200 : Nat) = (V : Rat) / (p200 : Nat) - (t : Rat) / (p200 : Nat) := by grind
    rw [e1] at a
    refine a.mono ?_
    have e2 : ((356811923176489970264571492362373784095686656 : Nat) : Rat) / (p200 : Nat) = dW := by
      have e3 : ((p200 : Nat) : Rat) = ((356811923176489970264571492362373784095686656 : Nat) : Rat) * 4503599627370496 := by
        rw [show p200 = 356811923176489970264571492362373784095686656 * 4503599627370496 by decide +kernel, Rat.natCast_mul]; rfl
      have e4 : (0 : Rat) < ((356811923176489970264571492362373784095686656 : Nat) : Rat) := by decide +kernel
      rw [e3]
      unfold dW
      generalize ((356811923176489970264571492362373784095686656 : Nat) : Rat) = q at *
      grind
    rw [e2]; exact Rat.le_refl
  · cases h
theorem rootTab_len : rootTab.length = 256 := by decide +kernel
theorem root_fc {a : Nat} (h : a < 256) : ∃ c : CQ, FC (wW a).1 (wW a).2 c.re c.im ∧ Cl c (cT a) dW := by
  have hw : rootTab[a]? = some (wW a) := by
    unfold wW
    rw [List.getD_eq_getElem?_getD, List.getElem?_eq_getElem (by rw [rootTab_len]; exact h)]; rfl
  have hz := zipAll_get near_all hw (rt_get h)
  simp only [Bool.and_eq_true] at hz
  obtain ⟨c, c1, c2⟩ := nearB_fr hz.1
  obtain ⟨d, d1, d2⟩ := nearB_fr hz.2
  exact ⟨⟨c, d⟩, ⟨c1, d1⟩, ⟨c2, d2⟩⟩
/-- The root with the index k of pw e. -/
def cN (e k : Nat) : CQ := cT (k * pw (8 - e))
theorem pw_split {e : Nat} (he : e < 9) : pw e * pw (8 - e) = 256 := by
  unfold pw
  rw [← Nat.pow_add, show e + (8 - e) = 8 by omega]
theorem idx_lt {e k : Nat} (he : e < 9) (hk : k < pw e) : k * pw (8 - e) < 256 := by
  have h := pw_split he
  have h2 := pw_pos (8 - e)
  have : (k + 1) * pw (8 - e) ≤ pw e * pw (8 - e) := Nat.mul_le_mul_right _ hk
  rw [Nat.add_mul, Nat.one_mul, h] at this
  omega
theorem rootF_fc {e k : Nat} (he : e < 9) (hk : k < pw e) : ∃ c : CQ, FC (rootF e k).1 (rootF e k).2 c.re c.im ∧ Cl c (cN e k) dW := root_fc (idx_lt he hk)
theorem cN_small {e k : Nat} (he : e < 9) (hk : k < pw e) : Nr (cN e k) 1 := cT_small (idx_lt he hk)
theorem cN_zero (e : Nat) : cN e 0 = CQ.one := by unfold cN; rw [Nat.zero_mul, cT_zero]
theorem cN_mul {e a b : Nat} (he : e < 9) (ha : a < pw e) (hb : b < pw e) : Cl ((cN e a).mul (cN e b)) (cN e ((a + b) % pw e)) dR := by
  have h := cT_mul (idx_lt he ha) (idx_lt he hb)
  rw [← Nat.add_mul, ← pw_split he, Nat.mul_mod_mul_right] at h
  exact h
theorem cN_half {e : Nat} (he : e + 1 < 9) : cN (e + 1) (pw e) = ⟨-1, 0⟩ := by
  unfold cN
  have : pw e * pw (8 - (e + 1)) = 128 := by
    unfold pw
    rw [← Nat.pow_add, show e + (8 - (e + 1)) = 7 by omega]
  rw [this, cT_half]
theorem cN_double {e k : Nat} (he : e + 1 < 9) : cN (e + 1) (2 * k) = cN e k := by
  unfold cN
  have : pw (8 - e) = pw (8 - (e + 1)) * 2 := by rw [← pw_next]; congr 1; omega
  rw [this]
  congr 1; ac_rfl
theorem dR_nonneg : 0 ≤ dR := by unfold dR; decide +kernel
/-- Some multiple of j is half of a turn. -/
theorem half_turn : ∀ (e j : Nat), 0 < j → j < pw e → ∃ s, (j * s) % pw e = pw (e - 1)
  | 0, j, h1, h2 => by
    have : pw 0 = 1 := rfl
    omega
  | e + 1, j, h1, h2 => by
    have hp : pw (e + 1) = 2 * pw e := by rw [pw_next, Nat.mul_comm]
    have h0 := pw_pos e
    rcases Nat.mod_two_eq_zero_or_one j with c | c
    · obtain ⟨j', rfl⟩ : ∃ j', j = 2 * j' := ⟨j / 2, by omega⟩
      cases e with
      | zero =>
        have h11 : pw (0 + 1) = 2 := rfl
        rw [h11] at h2
        omega
      | succ e =>
        obtain ⟨s, hs⟩ := half_turn (e + 1) j' (by omega) (by omega)
        refine ⟨s, ?_⟩
        rw [hp, Nat.mul_assoc, Nat.mul_mod_mul_left, hs]
        rw [show e + 1 + 1 - 1 = e + 1 from rfl, show e + 1 - 1 = e from rfl, pw_next, Nat.mul_comm]
    · refine ⟨pw e, ?_⟩
      obtain ⟨q, rfl⟩ : ∃ q, j = 2 * q + 1 := ⟨j / 2, by omega⟩
      rw [hp, Nat.add_mul, Nat.one_mul, show 2 * q * pw e + pw e = pw e + 2 * pw e * q by rw [Nat.add_comm]; congr 1; ac_rfl, Nat.add_mul_mod_self_left, Nat.mod_eq_of_lt (by omega)]
      rfl
/-- A sum over a whole period may start anywhere. -/
theorem sum_shift1 (h : Nat → CQ) (s : Nat) : ∀ n, (sumC n (fun k => h (k + s + 1))).add (h s) = (sumC n (fun k => h (k + s))).add (h (s + n))
  | 0 => rfl
  | n + 1 => by
    have ih := sum_shift1 h s n
    simp only [sumC]
    have e1 : (((sumC n fun k => h (k + s + 1)).add (h (n + s + 1))).add (h s)) = ((sumC n fun k => h (k + s + 1)).add (h s)).add (h (n + s + 1)) := by
      rw [CQ.add_assoc, CQ.add_comm (h (n + s + 1)), ← CQ.add_assoc]
    rw [e1, ih, show s + n = n + s by omega, show n + s + 1 = s + (n + 1) by omega]
theorem sum_shift (h : Nat → CQ) (N : Nat) (hp : ∀ k, h (k + N) = h k) : ∀ s, sumC N (fun k => h (k + s)) = sumC N h
  | 0 => rfl
  | s + 1 => by
    have h1 := sum_shift1 h s N
    rw [hp s] at h1
    have e : sumC N (fun k => h (k + s + 1)) = sumC N (fun k => h (k + s)) := by
      have a := congrArg CQ.re h1
      have b := congrArg CQ.im h1
      simp only [CQ.add] at a b
      exact CQ.eq (by grind) (by grind)
    exact e.trans (sum_shift h N hp s)
theorem rts_sum {e j : Nat} (he : e < 9) (h1 : 0 < j) (h2 : j < pw e) : Nr (sumC (pw e) (fun k => cN e (j * k % pw e))) ((pw e : Nat) * dR) := by
  obtain ⟨s, hs⟩ := half_turn e j h1 h2
  have hN := pw_pos e
  obtain ⟨e', rfl⟩ : ∃ e', e = e' + 1 := by
    cases e with
    | zero => have : pw 0 = 1 := rfl; omega
    | succ e' => exact ⟨e', rfl⟩
  rw [show e' + 1 - 1 = e' from rfl] at hs
  obtain ⟨S, hS⟩ : ∃ S, S = sumC (pw (e' + 1)) (fun k => cN (e' + 1) (j * k % pw (e' + 1))) := ⟨_, rfl⟩
  have hsh := sum_shift (fun k => cN (e' + 1) (j * k % pw (e' + 1))) (pw (e' + 1)) (fun k => by
    show cN (e' + 1) (j * (k + pw (e' + 1)) % pw (e' + 1)) = _
    rw [Nat.mul_add, Nat.add_mul_mod_self_right]) s
  rw [← hS] at hsh
  have hp : pw (e' + 1) = 2 * pw e' := by rw [pw_next, Nat.mul_comm]
  have h0 := pw_pos e'
  have hc : Cl (sumC (pw (e' + 1)) (fun k => (cN (e' + 1) (j * k % pw (e' + 1))).mul ⟨-1, 0⟩)) (sumC (pw (e' + 1)) (fun k => cN (e' + 1) (j * (k + s) % pw (e' + 1)))) ((pw (e' + 1) : Nat) * dR) := by
    refine Cl.sum (fun k _ => ?_)
    have h := cN_mul (a := j * k % pw (e' + 1)) (b := pw e') he (Nat.mod_lt _ hN) (by omega)
    rw [cN_half he] at h
    rw [Nat.mul_add, Nat.add_mod, hs]
    exact h
  rw [← sumC_mul, ← hS, hsh] at hc
  rw [← hS]
  obtain ⟨a, b⟩ := hc
  simp only [CQ.sub, CQ.mul] at a b
  generalize ((pw (e' + 1) : Nat) : Rat) * dR = D at *
  obtain ⟨a1, a2⟩ := a
  obtain ⟨b1, b2⟩ := b
  exact ⟨⟨by grind, by grind⟩, ⟨by grind, by grind⟩⟩
theorem rts (e : Nat) (he : e < 9) : Rts (pw e) (cN e) dR ((pw e : Nat) * dR) where
  pos := pw_pos e
  nn := Rat.mul_nonneg Rat.natCast_nonneg dR_nonneg
  one := cN_zero e
  small := fun a ha => (cN_small he ha).mono (by decide +kernel)
  mul := fun a b ha hb => cN_mul he ha hb
  sum := fun j h1 h2 => rts_sum he h1 h2
end Go.Proofs.YtghacjhempmejaaDoor
