/-
  The inverse of the transform of small integers is near them. Condition: the statements' numbers (numsL), up to 256 of them.
-/
import Derived.Test.YtghacjhempmejaaDoorDftAlive
namespace Go.Proofs.YtghacjhempmejaaDoor
open Go.RowKit Ieee
set_option linter.unusedVariables false
/-- What the statements' numbers stand for. -/
def numR (ls : List Int) (i : Nat) : CQ := if 2 * i + 1 < ls.length then ⟨(((ls.getD (2 * i) 0).tmod 7 : Int) : Rat), (((ls.getD (2 * i + 1) 0).tmod 7 : Int) : Rat)⟩ else CQ.zero
theorem seven_abs (x : Int) : (x.tmod 7).natAbs ≤ 6 := by
  rw [Int.natAbs_tmod]
  have := Nat.mod_lt x.natAbs (show 0 < (7 : Int).natAbs by decide)
  have h7 : (7 : Int).natAbs = 7 := rfl
  omega
theorem seven_ab (x : Int) : Ab ((x.tmod 7 : Int) : Rat) 6 := by
  have hb := seven_abs x
  have h := abs_cast hb
  rw [show ((6 : Nat) : Rat) = 6 from rfl] at h
  exact ⟨h.1, h.2⟩
theorem numR_nr (ls : List Int) (i : Nat) : Nr (numR ls i) 6 := by
  unfold numR
  split
  · exact ⟨seven_ab _, seven_ab _⟩
  · exact Nr.zero.mono (by decide +kernel)
theorem numsL_fc (ls : List Int) {n i : Nat} (h : i < n) : FCz ((numsL ls n).getD i (0, 0)) (numR ls i) := by
  unfold numsL
  rw [getD_map h]
  unfold numC numR
  split
  · exact ⟨fl_fr (by have := seven_abs (ls.getD (2 * i) 0); omega), fl_fr (by have := seven_abs (ls.getD (2 * i + 1) 0); omega)⟩
  · exact zero_fc
theorem sumC_one (n : Nat) (f : Nat → CQ) (a : Nat) (h : ∀ k, k < n → k ≠ a → f k = CQ.zero) : sumC n f = if a < n then f a else CQ.zero := by
  induction n with
  | zero => rw [if_neg (by omega)]; rfl
  | succ n ih =>
    simp only [sumC]
    rw [ih (fun k hk => h k (by omega))]
    by_cases e : a = n
    · subst e
      rw [if_neg (by omega), if_pos (by omega), CQ.zero_add]
    · rw [h n (by omega) (fun c => e c.symm), CQ.add_zero]
      by_cases c : a < n
      · rw [if_pos c, if_pos (by omega)]
      · rw [if_neg c, if_neg (by omega)]
theorem back_place {N k j : Nat} (hN : 0 < N) (hk : k < N) (hj : j < N) : (j + (N - k) % N) % N = 0 ↔ j = k := by
  by_cases k0 : k = 0
  · subst k0
    rw [Nat.sub_zero, Nat.mod_self, Nat.add_zero, Nat.mod_eq_of_lt hj]
  · rw [Nat.mod_eq_of_lt (show N - k < N by omega)]
    constructor
    · intro h
      by_cases c1 : j + (N - k) < N
      · rw [Nat.mod_eq_of_lt c1] at h; omega
      · rw [Nat.mod_eq_sub_mod (by omega), Nat.mod_eq_of_lt (by omega)] at h; omega
    · intro h
      rw [show j + (N - k) = N by omega, Nat.mod_self]
theorem back_near (ls : List Int) {e : Nat} (he : e < 9) : okF e (numsL ls (pw e)) ∧ okF e (fftW e (numsL ls (pw e))) ∧ okI e (fftW e (fftW e (numsL ls (pw e)))) ∧ ∀ k, k < pw e → Close ((numsL ls (pw e)).getD k (0, 0)) ((invL e (fftW e (numsL ls (pw e)))).getD k (0, 0)) := by
  have hN := pw_pos e
  have hNr : (0 : Rat) < ((pw e : Nat) : Rat) := by rw [pw_rat]; exact two_pow_pos e
  have hN256 : ((pw e : Nat) : Rat) ≤ 256 := by
    have h : pw e ≤ 256 := pw_le he
    have h2 : ((pw e : Nat) : Rat) ≤ ((256 : Nat) : Rat) := by exact_mod_cast h
    exact h2
  have t3 : (2 : Rat) ^ 3 = 8 := by decide +kernel
  have t5 : (2 : Rat) ^ 5 = 32 := by decide +kernel
  have t30 : (2 : Rat) ^ 30 = 1073741824 := by decide +kernel
  have te5 : (2 : Rat) ^ (e + 5) = ((pw e : Nat) : Rat) * 32 := by rw [two_pow_add, t5, pw_rat]
  have g1 := gE_small he
  have g0 := gE_nonneg e
  have h8 : ∀ j, j < pw e → Nr (numR ls j) ((2 : Rat) ^ 3) := fun j _ => (numR_nr ls j).mono (by rw [t3]; decide +kernel)
  obtain ⟨ok1, n1⟩ := fft_near e he 3 (by omega) (numsL ls (pw e)) (numR ls) (by unfold numsL; simp) (fun j hj => numsL_fc ls hj) h8
  have er3 : erE e 3 ≤ 1 / 100000000 := by unfold erE; rw [t3]; grind
  have er30 := erE_nonneg e 3
  have hz : ∀ k, ∃ z : CQ, k < pw e → FCz ((fftW e (numsL ls (pw e))).getD k (0, 0)) z ∧ Cl z (trZ (pw e) (cN e) (numR ls) (pw e) k) (erE e 3) ∧ Nr z ((2 : Rat) ^ (e + 5)) := fun k => by
    by_cases hk : k < pw e
    · obtain ⟨z, fz, cz⟩ := n1 k hk
      have nT := trZ_nr (m := pw e) he h8 k
      have h1 : (1 : Rat) ≤ ((pw e : Nat) : Rat) := by
        have : ((1 : Nat) : Rat) ≤ ((pw e : Nat) : Rat) := by exact_mod_cast hN
        exact this
      exact ⟨z, fun _ => ⟨fz, cz, (cz.nr nT).mono (by rw [te5, t3]; grind)⟩⟩
    · exact ⟨CQ.zero, fun h => (hk h).elim⟩
  obtain ⟨z, hz⟩ := Classical.axiomOfChoice hz
  obtain ⟨ok2, n2⟩ := fft_near e he (e + 5) (by omega) (fftW e (numsL ls (pw e))) z (fftW_len _ _ (by unfold numsL; simp)) (fun j hj => (hz j hj).1) (fun j hj => (hz j hj).2.2)
  have erb : erE e (e + 5) ≤ ((pw e : Nat) : Rat) * (1 / 100000000) := by
    unfold erE
    rw [te5]
    have := Rat.mul_le_mul_of_nonneg_right g1 (Rat.le_of_lt hNr)
    grind
  have hbig : ∀ k, k < pw e → ∃ y : CQ, FCz ((fftW e (fftW e (numsL ls (pw e)))).getD k (0, 0)) y ∧ Nr y ((2 : Rat) ^ 30) ∧ Cl y (sumC (pw e) (fun j => (trZ (pw e) (cN e) (numR ls) (pw e) j).mul (cN e (k * j % pw e)))) (((pw e : Nat) : Rat) * (1 / 20000000)) := fun k hk => by
    obtain ⟨y, fy, cy⟩ := n2 k hk
    have nT := trZ_nr (m := pw e) he (fun j hj => (hz j hj).2.2) k
    have cS : Cl (trZ (pw e) (cN e) z (pw e) k) (sumC (pw e) (fun j => (trZ (pw e) (cN e) (numR ls) (pw e) j).mul (cN e (k * j % pw e)))) (((pw e : Nat) : Rat) * (2 * (erE e 3 * 1))) := by
      show Cl (sumC (pw e) (fun j => (z j).mul (cN e (j * k % pw e)))) _ _
      refine Cl.sum (fun j hj => ?_)
      have a := Nr.mul (hz j hj).2.1 (cN_small he (Nat.mod_lt (j * k) hN))
      rw [Nat.mul_comm k j]
      unfold Cl
      rw [show ((z j).mul (cN e (j * k % pw e))).sub ((trZ (pw e) (cN e) (numR ls) (pw e) j).mul (cN e (j * k % pw e))) = ((z j).sub (trZ (pw e) (cN e) (numR ls) (pw e) j)).mul (cN e (j * k % pw e)) from CQ.eq (by simp only [CQ.mul, CQ.sub]; grind) (by simp only [CQ.mul, CQ.sub]; grind)]
      exact a
    have q1 := Rat.mul_le_mul_of_nonneg_left er3 (Rat.le_of_lt hNr)
    have q2 := Rat.mul_le_mul_of_nonneg_left hN256 (Rat.le_of_lt hNr)
    refine ⟨y, fy, (cy.nr nT).mono ?_, (cy.trans cS).mono ?_⟩
    · rw [te5, t30]
      generalize ((pw e : Nat) : Rat) = N at *
      grind
    · grind
  refine ⟨ok1, ok2, okI_of he (K := 30) (by omega) (fun k hk => ?_), fun k hk => ?_⟩
  · obtain ⟨y, fy, ny, _⟩ := hbig k hk
    exact ⟨y, fy, ny⟩
  · obtain ⟨y, fy, ny, cy⟩ := hbig ((pw e - k) % pw e) (Nat.mod_lt _ hN)
    obtain ⟨u, a, d1, _, d3, d4⟩ := div_near he fy.1 30 (by omega) ny.1
    obtain ⟨v, b, f1, _, f3, f4⟩ := div_near he fy.2 30 (by omega) ny.2
    have hw : (invL e (fftW e (numsL ls (pw e)))).getD k (0, 0) = (u, v) := by
      unfold invL
      rw [getD_map hk]
      unfold invF
      rw [d1, f1]; rfl
    rw [hw]
    have hc := (rts e he).back (numR ls) (pw e) ((pw e - k) % pw e) 6 (fun i _ => numR_nr ls i)
    have hone : sumC (pw e) (fun j => (numR ls j).mul (if (j + (pw e - k) % pw e) % pw e = 0 then (⟨((pw e : Nat) : Rat), 0⟩ : CQ) else CQ.zero)) = (numR ls k).mul ⟨((pw e : Nat) : Rat), 0⟩ := by
      rw [sumC_one _ _ k (fun j hj hne => by
        show (numR ls j).mul (if (j + (pw e - k) % pw e) % pw e = 0 then (⟨((pw e : Nat) : Rat), 0⟩ : CQ) else CQ.zero) = CQ.zero
        rw [if_neg (fun c => hne ((back_place hN hk hj).1 c)), CQ.mul_zero]), if_pos hk, if_pos ((back_place hN hk hk).2 rfl)]
    rw [hone] at hc
    have hdR : dR ≤ 1 / 1000000000000000000 := by unfold dR; decide +kernel
    have hd0 := dR_nonneg
    have q1 := Rat.mul_le_mul_of_nonneg_left hdR (Rat.le_of_lt hNr)
    have q2 := Rat.mul_nonneg (Rat.le_of_lt hNr) hd0
    have q3 := Rat.mul_le_mul_of_nonneg_right hN256 q2
    have hsm : ((pw e : Nat) : Rat) * (2 * (6 * (((pw e : Nat) : Rat) * dR + ((pw e : Nat) : Rat) * dR))) ≤ ((pw e : Nat) : Rat) * (1 / 100000000) := by
      generalize ((pw e : Nat) : Rat) = N at *
      have q4 := Rat.mul_le_mul_of_nonneg_left q1 (Rat.le_of_lt hNr)
      have q5 := Rat.mul_le_mul_of_nonneg_left hN256 (Rat.le_of_lt hNr)
      grind
    obtain ⟨c1, c2⟩ := (cy.trans hc).mono (show _ ≤ ((pw e : Nat) : Rat) * (1 / 15000000) by grind)
    simp only [CQ.sub, CQ.mul] at c1 c2
    have e30 : eps 30 = 1073741824 / 9007199254740992 := by unfold eps; rw [t30]
    rw [e30] at d4 f4
    have hX := numsL_fc ls (n := pw e) hk
    refine ⟨_, _, a, b, hX, ⟨d3, f3⟩, ?_, ?_⟩
    · generalize ((pw e : Nat) : Rat) = N at *
      obtain ⟨b1, b2⟩ := c1
      have hdiv : Ab (y.re / N - (numR ls k).re) (1 / 15000000) := by
        constructor
        · refine Rat.le_of_mul_le_mul_right ?_ hNr
          rw [show (y.re / N - (numR ls k).re) * N = y.re - N * (numR ls k).re by grind]; grind
        · refine Rat.le_of_mul_le_mul_right ?_ hNr
          rw [show -(y.re / N - (numR ls k).re) * N = -(y.re - N * (numR ls k).re) by grind]; grind
      have := (d4.add hdiv).neg
      rw [show -(a - y.re / N + (y.re / N - (numR ls k).re)) = (numR ls k).re - a by grind] at this
      exact this.mono (by decide +kernel)
    · generalize ((pw e : Nat) : Rat) = N at *
      obtain ⟨b1, b2⟩ := c2
      have hdiv : Ab (y.im / N - (numR ls k).im) (1 / 15000000) := by
        constructor
        · refine Rat.le_of_mul_le_mul_right ?_ hNr
          rw [show (y.im / N - (numR ls k).im) * N = y.im - N * (numR ls k).im by grind]; grind
        · refine Rat.le_of_mul_le_mul_right ?_ hNr
          rw [show -(y.im / N - (numR ls k).im) * N = -(y.im - N * (numR ls k).im) by grind]; grind
      have := (f4.add hdiv).neg
      rw [show -(b - y.im / N + (y.im / N - (numR ls k).im)) = (numR ls k).im - b by grind] at this
      exact this.mono (by decide +kernel)
end Go.Proofs.YtghacjhempmejaaDoor
