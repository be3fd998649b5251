/-
  The steps of transform stand for numbers near the transform: no step fails. Condition: the parts of the elements are at most 2 ^ r, r at most 100.
-/
import Derived.Test.YtghacjhempmejaaDoorDftRts
import Derived.Test.YtghacjhempmejaaDoorDftTrans
namespace Go.Proofs.YtghacjhempmejaaDoor
open Ieee
theorem sum_halves (f : Nat → CQ) : ∀ h, sumC (2 * h) f = (sumC h (fun j => f (2 * j))).add (sumC h (fun j => f (2 * j + 1)))
  | 0 => (CQ.add_zero _).symm
  | h + 1 => by
    rw [show 2 * (h + 1) = 2 * h + 1 + 1 by omega]
    simp only [sumC]
    rw [sum_halves f h, CQ.add_assoc, CQ.add_swap]
theorem Nr.neg {z : CQ} {e : Rat} (h : Nr z e) : Nr (z.mul ⟨-1, 0⟩) e := by
  obtain ⟨h1, h2⟩ := h
  refine ⟨?_, ?_⟩
  · have := h1.neg
    rw [show (z.mul ⟨-1, 0⟩).re = -z.re by simp only [CQ.mul]; grind]; exact this
  · have := h2.neg
    rw [show (z.mul ⟨-1, 0⟩).im = -z.im by simp only [CQ.mul]; grind]; exact this
theorem Cl.neg {z w : CQ} {e : Rat} (h : Cl z w e) : Cl (z.mul ⟨-1, 0⟩) (w.mul ⟨-1, 0⟩) e := by
  have := Nr.neg h
  unfold Cl
  rw [show (z.mul ⟨-1, 0⟩).sub (w.mul ⟨-1, 0⟩) = (z.sub w).mul ⟨-1, 0⟩ from CQ.eq (by simp only [CQ.mul, CQ.sub]; grind) (by simp only [CQ.mul, CQ.sub]; grind)]
  exact this
theorem two_pow_add (a b : Nat) : (2 : Rat) ^ (a + b) = (2 : Rat) ^ a * (2 : Rat) ^ b := by
  induction b with
  | zero => rw [Nat.add_zero, Rat.pow_zero]; grind
  | succ b ih => rw [← Nat.add_assoc, Rat.pow_succ, Rat.pow_succ, ih]; grind
theorem trZ_nr {e m : Nat} (he : e < 9) {x : Nat → CQ} {R : Rat} (hx : ∀ j, j < m → Nr (x j) R) (k : Nat) : Nr (trZ (pw e) (cN e) x m k) ((m : Rat) * (2 * (R * 1))) := sumC_nr (fun j hj => (hx j hj).mul (cN_small he (Nat.mod_lt _ (pw_pos e))))
section
variable {e : Nat} {x : Nat → CQ} {R : Rat}
/-- The transform of the whole list by those of its halves. -/
theorem tr_low (he : e + 1 < 9) (hx : ∀ j, j < pw (e + 1) → Nr (x j) R) {k : Nat} (hk : k < pw e) :
    Cl (trZ (pw (e + 1)) (cN (e + 1)) x (pw (e + 1)) k) ((trZ (pw e) (cN e) (fun j => x (2 * j)) (pw e) k).add ((trZ (pw e) (cN e) (fun j => x (2 * j + 1)) (pw e) k).mul (cN (e + 1) k))) ((pw e : Nat) * (2 * (R * dR))) ∧
    Cl (trZ (pw (e + 1)) (cN (e + 1)) x (pw (e + 1)) (k + pw e)) ((trZ (pw e) (cN e) (fun j => x (2 * j)) (pw e) k).add (((trZ (pw e) (cN e) (fun j => x (2 * j + 1)) (pw e) k).mul (cN (e + 1) k)).mul ⟨-1, 0⟩)) ((pw e : Nat) * (2 * (R * (2 * dR)))) := by
  have hp : pw (e + 1) = 2 * pw e := by rw [pw_next, Nat.mul_comm]
  have h0 := pw_pos e
  have hev : ∀ j, 2 * j * k % pw (e + 1) = 2 * (j * k % pw e) := fun j => by rw [hp, Nat.mul_assoc, Nat.mul_mod_mul_left]
  have hev2 : ∀ j, 2 * j * (k + pw e) % pw (e + 1) = 2 * (j * k % pw e) := fun j => by
    rw [Nat.mul_add, show 2 * j * pw e = pw (e + 1) * j by rw [hp]; ac_rfl, Nat.add_mul_mod_self_left, hev]
  have hodd : ∀ j, (2 * j + 1) * k % pw (e + 1) = (2 * (j * k % pw e) + k) % pw (e + 1) := fun j => by
    rw [Nat.add_mul, Nat.one_mul, Nat.add_mod, hev, Nat.mod_eq_of_lt (show k < pw (e + 1) by omega)]
  have hodd2 : ∀ j, (2 * j + 1) * (k + pw e) % pw (e + 1) = ((2 * (j * k % pw e) + k) % pw (e + 1) + pw e) % pw (e + 1) := fun j => by
    rw [Nat.add_mul, Nat.one_mul, Nat.add_mod, hev2, Nat.add_mod_mod, Nat.mod_add_mod, Nat.add_assoc]
  have hj : ∀ j, 2 * (j * k % pw e) < pw (e + 1) := fun j => by have := Nat.mod_lt (j * k) h0; omega
  have hC : ∀ j, Cl (cN (e + 1) ((2 * j + 1) * k % pw (e + 1))) ((cN e (j * k % pw e)).mul (cN (e + 1) k)) dR := fun j => by
    have := cN_mul he (hj j) (show k < pw (e + 1) by omega)
    rw [cN_double he] at this
    rw [hodd]
    exact this.symm
  have hC2 : ∀ j, Cl (cN (e + 1) ((2 * j + 1) * (k + pw e) % pw (e + 1))) (((cN e (j * k % pw e)).mul (cN (e + 1) k)).mul ⟨-1, 0⟩) (2 * dR) := fun j => by
    have a := cN_mul (a := (2 * (j * k % pw e) + k) % pw (e + 1)) (b := pw e) he (Nat.mod_lt _ (pw_pos _)) (by omega)
    rw [cN_half he] at a
    have b := (hC j).neg
    rw [hodd] at b
    rw [hodd2]
    exact (a.symm.trans b).mono (by grind)
  have hR : ∀ j, j < pw e → Nr (x (2 * j + 1)) R := fun j hj => hx _ (by omega)
  have hT : (trZ (pw e) (cN e) (fun j => x (2 * j + 1)) (pw e) k).mul (cN (e + 1) k) = sumC (pw e) (fun j => (x (2 * j + 1)).mul ((cN e (j * k % pw e)).mul (cN (e + 1) k))) := by
    unfold trZ
    rw [sumC_mul]
    exact sumC_congr (fun j _ => CQ.mul_assoc _ _ _)
  have hE : ∀ q, (∀ j, 2 * j * q % pw (e + 1) = 2 * (j * k % pw e)) → trZ (pw (e + 1)) (cN (e + 1)) x (pw (e + 1)) q = (trZ (pw e) (cN e) (fun j => x (2 * j)) (pw e) k).add (sumC (pw e) (fun j => (x (2 * j + 1)).mul (cN (e + 1) ((2 * j + 1) * q % pw (e + 1))))) := fun q hq => by
    have : trZ (pw (e + 1)) (cN (e + 1)) x (pw (e + 1)) q = sumC (2 * pw e) (fun j => (x j).mul (cN (e + 1) (j * q % pw (e + 1)))) := by unfold trZ; rw [← hp]
    rw [this, sum_halves]
    congr 1
    unfold trZ
    exact sumC_congr (fun j _ => by rw [hq, cN_double he])
  have hmul : ∀ j (z w : CQ) (d : Rat), j < pw e → Cl z w d → Cl ((x (2 * j + 1)).mul z) ((x (2 * j + 1)).mul w) (2 * (R * d)) := fun j z w d hj h => by
    have a := Nr.mul (hR j hj) h
    unfold Cl
    rw [show ((x (2 * j + 1)).mul z).sub ((x (2 * j + 1)).mul w) = (x (2 * j + 1)).mul (z.sub w) from CQ.eq (by simp only [CQ.mul, CQ.sub]; grind) (by simp only [CQ.mul, CQ.sub]; grind)]
    exact a
  constructor
  · rw [hE k hev, hT]
    have a : Cl _ _ _ := Cl.add (Cl.refl (trZ (pw e) (cN e) (fun j => x (2 * j)) (pw e) k)) (Cl.sum (n := pw e) (fun j hj => hmul j _ _ _ hj (hC j)))
    exact a.mono (by grind)
  · rw [hE (k + pw e) hev2, hT, sumC_mul]
    have a : Cl _ _ _ := Cl.add (Cl.refl (trZ (pw e) (cN e) (fun j => x (2 * j)) (pw e) k)) (Cl.sum (n := pw e) (fun j hj => hmul j _ _ _ hj (hC2 j)))
    have e1 : sumC (pw e) (fun j => (x (2 * j + 1)).mul (((cN e (j * k % pw e)).mul (cN (e + 1) k)).mul ⟨-1, 0⟩)) = sumC (pw e) (fun j => ((x (2 * j + 1)).mul ((cN e (j * k % pw e)).mul (cN (e + 1) k))).mul ⟨-1, 0⟩) := sumC_congr (fun j _ => (CQ.mul_assoc _ _ _).symm)
    rw [e1] at a
    exact a.mono (by grind)
end
/-- The error of a transform of 2 ^ e elements, in parts of the greatest element. -/
def gE : Nat → Rat
  | 0 => 0
  | e + 1 => 3 * gE e + (2 : Rat) ^ e
def erE (e r : Nat) : Rat := gE e * (2 : Rat) ^ r / 70368744177664
theorem gE_nonneg : ∀ e, 0 ≤ gE e
  | 0 => Rat.le_refl
  | e + 1 => by
    have h1 := gE_nonneg e
    have h2 := two_pow_pos e
    unfold gE
    grind
theorem gE_small {e : Nat} (he : e < 9) : gE e ≤ 10000 := by
  have : (List.range 9).all (fun e => decide (gE e ≤ 10000)) = true := by decide +kernel
  simpa using List.all_eq_true.1 this e (List.mem_range.2 he)
theorem erE_nonneg (e r : Nat) : 0 ≤ erE e r := by
  have h := Rat.mul_nonneg (gE_nonneg e) (Rat.le_of_lt (two_pow_pos r))
  unfold erE
  grind
theorem erE_small {e : Nat} (he : e < 9) (r : Nat) : erE e r ≤ (2 : Rat) ^ r / 1000000 := by
  have h := Rat.mul_le_mul_of_nonneg_right (gE_small he) (Rat.le_of_lt (two_pow_pos r))
  have h2 := two_pow_pos r
  unfold erE
  grind
end Go.Proofs.YtghacjhempmejaaDoor
